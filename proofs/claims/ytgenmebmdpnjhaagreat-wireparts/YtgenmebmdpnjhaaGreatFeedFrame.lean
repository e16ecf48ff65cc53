
/- Hand's Frame: some right one. -/
import Derived.Test.YtgenmebmdpnjhaaGreatG8
import Derived.Test.YtgenmebmdpnjhaaGreatFeedSubs
import Derived.Test.YtgenmebmdpnjhaaGreatWireRight3
import Derived.Test.YtgenmebmdpnjhaaGreatG13
import Derived.Test.YtgenmebmdpnjhaaGreatG6
namespace Go.Proofs.YtgenmebmdpnjhaaGreat
open Go.RowKit
set_option linter.unusedVariables false
abbrev fr00 : Fr := ⟨0, 0, 0, 0, 0, 0, ev00, false, ⟨0, 0, 0, ⟨none, 0, []⟩⟩, none, 0, []⟩
theorem ffr_one (f : Fr) : ∀ u ∈ f.cells, u.oneCell' = true := by
  intro u hu
  simp only [Fr.cells, List.mem_cons, List.not_mem_nil, or_false] at hu
  rcases hu with rfl | rfl | rfl | rfl | rfl | rfl | rfl | rfl | rfl | rfl | rfl | rfl | rfl | rfl | rfl | rfl | rfl | rfl | rfl <;> rfl
/-- A part of a Frame's block is stored to. -/
theorem ffset_frame {w : World} {g p : Nat} {x x' : Fr} {cs : List Value} (hp : part x.cells p cs = x'.cells) (hg : w.heap[g]? = some (frbox x)) : (w.setRow g (part x.cells p cs).toArray).heap[g]? = some (frbox x') ∧ Kept (· = g) w (w.setRow g (part x.cells p cs).toArray) := by
  rw [hp]
  exact ⟨setRow_heap w g _ x'.cells.toArray _ _ hg, Kept.setRow _ _ _⟩
/-- A Frame all of whose parts are of its own. -/
structure Fro (B : Nat) (w : World) (f : Fr) : Prop where
  e : OwnA B w (.slice f.e.A f.e.l.length f.e.ca) f.e.l
  t : OwnT B w (.slice f.e.B f.e.t.length f.e.cb) f.e.t
  s : Owned B w f.s.f
  l : OwnSb B w (.slice f.A f.l.length f.c) f.l
  each : ∀ s, s ∈ f.l → Owned B w s.f
/-- What Frame tells. -/
structure Frd (x : Fr) : Prop where
  right : Wr.right x = true
  attrs : At.Fed 5 x.e.l
  filter : Fi.Fine x.s.f.l
  subs : ∀ s, s ∈ x.l → Fi.Fine s.f.l
def FramePost (B b a : Nat) (w : World) (e : Ending) (w' : World) : Prop :=
  ∃ x : Fr, e = .returned (frv x) ∧ Frd x ∧ Fro w.heap.size w' x ∧ IsFeed B w' b (a + 900) ∧ Kept (· = b) w w'

/-- Whatever turns but Frames' blocks leaves a Frame's parts. -/
theorem Owned.frame {B g : Nat} {w w' : World} {f : Ft} {cs : Array Value} {fr : Nat × Nat} (h : Owned B w f) (k : Kept (· = g) w w') (hg : w.heap[g]? = some (.cells cs 38 fr)) : Owned B w' f :=
  ⟨h.row.kept k (ownw_not h.row hg (by decide)), fun x hx => (h.sets x hx).kept k (ownw_not (h.sets x hx) hg (by decide))⟩
theorem Fro.frame {B g : Nat} {w w' : World} {f : Fr} {cs : Array Value} {fr : Nat × Nat} (h : Fro B w f) (k : Kept (· = g) w w') (hg : w.heap[g]? = some (.cells cs 38 fr)) : Fro B w' f :=
  ⟨OwnW.kept h.e k (ownw_not h.e hg (by decide)), OwnW.kept h.t k (ownw_not h.t hg (by decide)), h.s.frame k hg, OwnW.kept h.l k (ownw_not h.l hg (by decide)), fun s hs => (h.each s hs).frame k hg⟩
theorem Fro.later {B : Nat} {w w' : World} {f : Fr} (h : Fro B w f) (k : Below w.heap.size w w') : Fro B w' f :=
  ⟨h.e.later k, h.t.later k, h.s.later k, h.l.later k, fun s hs => (h.each s hs).later k⟩
theorem Fro.fed {B b : Nat} {w w' : World} {f : Fr} (h : Fro B w f) (k : Kept (· = b) w w') (hb : b < B) : Fro B w' f :=
  have hs : ∀ i, i = b → Beside B w i := fun i e => .inl (by omega)
  ⟨OwnW.kept h.e k (ownw_apart h.e hb), OwnW.kept h.t k (ownw_apart h.t hb), h.s.beside k hs, OwnW.kept h.l k (ownw_apart h.l hb), fun s hs' => (h.each s hs').beside k hs⟩
theorem Fro.none {B : Nat} {w : World} {f : Fr} (hB : B ≤ w.heap.size) (h1 : f.e = ev00) (h2 : f.s.f = ⟨none, 0, []⟩) (h3 : f.A = none) (h4 : f.c = 0) (h5 : f.l = []) : Fro B w f := by
  obtain ⟨k, tb, fm, cl, sq, ep, e, g, s, A, c, l⟩ := f
  dsimp only at h1 h2 h3 h4 h5
  subst h1 h3 h4 h5
  exact ⟨OwnW.nil _ _ _ hB, OwnW.nil _ _ _ hB, h2 ▸ nil_owned _ hB, OwnW.nil _ _ _ hB, fun s hs => by cases hs⟩
/-- What is built so far. -/
structure Fst (B b a gx : Nat) (w wr : World) (x : Fr) : Prop where
  own : Fro w.heap.size wr x
  row : wr.heap[gx]? = some (frbox x)
  res : wr.heap[w.heap.size]? = some (frbox fr00)
  feed : IsFeed B wr b a
  kept : Kept (· = b) w wr
  hb : b < w.heap.size
  hgx : w.heap.size < gx
theorem Fst.fed {B b a a' gx : Nat} {w wr wx : World} {x : Fr} (h : Fst B b a gx w wr x) (k : Kept (· = b) wr wx) (hf : IsFeed B wx b a') : Fst B b a' gx w wx x :=
  have hb := h.hb
  have hg := h.hgx
  ⟨h.own.fed k hb, k.row h.row (by show ¬ gx = b; omega), k.row h.res (by show ¬ w.heap.size = b; omega), hf, h.kept.then k, hb, hg⟩
theorem Fst.later {B b a gx : Nat} {w wr wx : World} {x : Fr} (h : Fst B b a gx w wr x) (k : Below wr.heap.size wr wx) : Fst B b a gx w wx x :=
  ⟨h.own.later k, below_row k h.row, below_row k h.res, h.feed.below k, h.kept.then (Kept.ofBelow k), h.hb, h.hgx⟩
/-- A part is stored to. -/
theorem Fst.set {B b a gx p : Nat} {w wr : World} {x x' : Fr} {cs : List Value} (h : Fst B b a gx w wr x) (hp : part x.cells p cs = x'.cells) (ho : Fro w.heap.size wr x') : Fst B b a gx w (wr.setRow gx (part x.cells p cs).toArray) x' := by
  have hb := h.hb
  have hg := h.hgx
  have hB := h.feed.1
  obtain ⟨h1, h2⟩ := ffset_frame hp h.row
  exact ⟨ho.frame h2 h.row, h1, h2.row h.res (by show ¬ w.heap.size = gx; omega), h.feed.kept h2 (by omega) (fun i hi => by omega), h.kept.trans h2 (fun i hi e => by omega), hb, hg⟩
theorem Fst.filt {B b a gx : Nat} {w wr : World} {x : Fr} {f : Ft} (h : Fst B b a gx w wr x) (hO : Owned w.heap.size wr f) : Fro w.heap.size wr { x with s := { x.s with f := f } } := ⟨h.own.e, h.own.t, hO, h.own.l, h.own.each⟩
theorem Fst.subs {B b a gx : Nat} {w wr : World} {x : Fr} {A : Option Addr} {c : Nat} {l : List Sb} (h : Fst B b a gx w wr x) (hO : OwnSb w.heap.size wr (.slice A l.length c) l) (he : ∀ s, s ∈ l → Owned w.heap.size wr s.f) : Fro w.heap.size wr { x with A := A, c := c, l := l } := ⟨h.own.e, h.own.t, h.own.s, hO, he⟩
/-- How it ends: the result's block holds what was built. -/
theorem Fst.ends {B b a gx : Nat} {w w9 : World} {x : Fr} (h : Fst B b a gx w w9 x) : (w9.setRow w.heap.size (part fr00.cells 0 x.cells).toArray).heap[w.heap.size]? = some (frbox x) ∧ Fro w.heap.size (w9.setRow w.heap.size (part fr00.cells 0 x.cells).toArray) x ∧ IsFeed B (w9.setRow w.heap.size (part fr00.cells 0 x.cells).toArray) b a ∧ Kept (· = b) w (w9.setRow w.heap.size (part fr00.cells 0 x.cells).toArray) := by
  have hb := h.hb
  have hB := h.feed.1
  obtain ⟨h1, h2⟩ := ffset_frame (p := 0) (x := fr00) (x' := x) (cs := x.cells) rfl h.res
  exact ⟨h1, h.own.frame h2 h.res, h.feed.kept h2 (by omega) (fun i hi => by omega), h.kept.trans h2 (fun i hi e => by omega)⟩
theorem fed_none : At.Fed 5 [] := ⟨by simp, by simp, by simp, by simp, by simp⟩
theorem frd_epoch {k : Int} {q : Nat} (hk : k = 2 ∨ k = 3) (hq : (q : Int) < 500) : Frd ⟨k, 0, 0, 0, 0, (q : Int), ev00, false, ⟨0, 0, 0, ⟨none, 0, []⟩⟩, none, 0, []⟩ := by
  refine ⟨?_, fed_none, Fi.Fine.nil, fun s hs => by cases hs⟩
  have hn : Wr.num (q : Int) = true := by simp only [Wr.num, Bool.and_eq_true, decide_eq_true_eq]; omega
  rcases hk with rfl | rfl <;> simp [Wr.right, hn, Wr.same, Wr.frints, Cd.event_refl, Cd.sub_refl, Cd.subs_refl]
theorem frd_passed {q1 q2 q3 : Nat} (h1 : (q1 : Int) < 8) (h2 : (q2 : Int) < 6) (h3 : (q3 : Int) < 400) : Frd ⟨7, (q1 : Int), 0, 1 + (q2 : Int), 1 + (q3 : Int), 0, ev00, false, ⟨0, 0, 0, ⟨none, 0, []⟩⟩, none, 0, []⟩ := by
  refine ⟨?_, fed_none, Fi.Fine.nil, fun s hs => by cases hs⟩
  have e1 : Wr.broker (q1 : Int) = true := by simp only [Wr.broker, Bool.and_eq_true, decide_eq_true_eq]; omega
  have e2 : Wr.client (1 + (q2 : Int)) = true := by simp only [Wr.client, Bool.and_eq_true, decide_eq_true_eq]; omega
  have e3 : Wr.cnt (1 + (q3 : Int)) = true := by simp only [Wr.cnt, Bool.and_eq_true, decide_eq_true_eq]; omega
  simp [Wr.right, e1, e2, e3, Wr.same, Wr.frints, Cd.event_refl, Cd.sub_refl, Cd.subs_refl]
theorem frd_done {q1 q2 q3 q4 : Nat} (h1 : (q1 : Int) < 8) (h2 : (q2 : Int) < 6) (h3 : (q3 : Int) < 400) (h4 : (q4 : Int) < 8) : Frd ⟨8, (q1 : Int), (q4 : Int), 1 + (q2 : Int), 1 + (q3 : Int), 0, ev00, false, ⟨0, 0, 0, ⟨none, 0, []⟩⟩, none, 0, []⟩ := by
  refine ⟨?_, fed_none, Fi.Fine.nil, fun s hs => by cases hs⟩
  have e1 : Wr.broker (q1 : Int) = true := by simp only [Wr.broker, Bool.and_eq_true, decide_eq_true_eq]; omega
  have e2 : Wr.client (1 + (q2 : Int)) = true := by simp only [Wr.client, Bool.and_eq_true, decide_eq_true_eq]; omega
  have e3 : Wr.cnt (1 + (q3 : Int)) = true := by simp only [Wr.cnt, Bool.and_eq_true, decide_eq_true_eq]; omega
  have e4 : Wr.broker (q4 : Int) = true := by simp only [Wr.broker, Bool.and_eq_true, decide_eq_true_eq]; omega
  simp [Wr.right, e1, e2, e3, e4, Wr.same, Wr.frints, Cd.event_refl, Cd.sub_refl, Cd.subs_refl]
theorem Wr.Sbd.one {l : List Sb} (h : Wr.Sbd 7 0 l) {s : Sb} (hs : s ∈ l) : Wr.rightSb s = true := by
  obtain ⟨h1, h2, h3, h4, h5, h6, h7, h8⟩ := h.each s hs
  have e1 : Wr.client s.c = true := by
    simp only [Wr.client, Bool.and_eq_true, decide_eq_true_eq]
    by_cases h9 : s.c = 7
    · have := h8 h9; omega
    · omega
  have e2 : Wr.broker s.b = true := by simp only [Wr.broker, Bool.and_eq_true, decide_eq_true_eq]; omega
  have e3 : Wr.cnt s.n = true := by simp only [Wr.cnt, Bool.and_eq_true, decide_eq_true_eq]; omega
  simp [Wr.rightSb, e1, e2, e3, h7.isright]
theorem Wr.Sbd.right {l : List Sb} (h : Wr.Sbd 7 0 l) (hl : l.length ≤ 18) : Wr.rightSbs l = true := by
  unfold Wr.rightSbs
  rw [decide_eq_true hl, Bool.true_and, List.all_eq_true]
  intro k hk
  have hk : k < l.length := List.mem_range.1 hk
  obtain ⟨x, hx⟩ : ∃ x, l[k]? = some x := ⟨_, List.getElem?_eq_getElem hk⟩
  cases k with
  | zero => rw [Wr.sb_zero hx]; exact h.one (List.mem_of_getElem? hx)
  | succ j =>
    obtain ⟨y, hy⟩ : ∃ y, l[j]? = some y := ⟨_, List.getElem?_eq_getElem (by omega)⟩
    rw [Wr.sb_succ hx hy, h.one (List.mem_of_getElem? hx), Bool.true_and]
    have := List.pairwise_iff_getElem.1 h.rise j (j + 1) (by omega) hk (by omega)
    rw [(List.getElem?_eq_some_iff.1 hy).2, (List.getElem?_eq_some_iff.1 hx).2] at this
    unfold Wr.behind
    rcases this with h1 | ⟨h1, h2⟩
    · rw [decide_eq_true h1]; rfl
    · rw [decide_eq_true h2, show (x.c == y.c) = true by simp [h1]]; simp
theorem frd_change {q1 q2 q3 : Nat} {g : Bool} {f : Ft} (h1 : (q1 : Int) < 6) (h2 : (q2 : Int) < 8) (h3 : (q3 : Int) < 200) (hf : Fi.Fine f.l) (hg : g = true → f.l = []) : Frd ⟨1, 0, 0, 0, 0, 0, ev00, g, ⟨1 + (q1 : Int), (q2 : Int), 1 + (q3 : Int), f⟩, none, 0, []⟩ := by
  refine ⟨?_, fed_none, hf, fun s hs => by cases hs⟩
  have e1 : Wr.client (1 + (q1 : Int)) = true := by simp only [Wr.client, Bool.and_eq_true, decide_eq_true_eq]; omega
  have e2 : Wr.broker (q2 : Int) = true := by simp only [Wr.broker, Bool.and_eq_true, decide_eq_true_eq]; omega
  have e3 : Wr.cnt (1 + (q3 : Int)) = true := by simp only [Wr.cnt, Bool.and_eq_true, decide_eq_true_eq]; omega
  have e4 := hf.isright
  cases g
  · simp [Wr.right, Wr.rightCh, Wr.rightSb, e1, e2, e3, e4, Wr.same, Wr.frints, Cd.event_refl, Cd.sub_refl, Cd.subs_refl]
  · have e5 := hg rfl
    rw [e5] at e4
    simp [Wr.right, Wr.rightCh, Wr.rightSb, e1, e2, e3, e4, e5, Wr.same, Wr.frints, Cd.event_refl, Cd.sub_refl, Cd.subs_refl]
theorem frd_open {q : Nat} {A : Option Addr} {c : Nat} {l : List Sb} (hq : (q : Int) < 500) (h : Wr.Sbd 7 0 l) (hl : l.length ≤ 18) : Frd ⟨4, 0, 0, 0, 0, (q : Int), ev00, false, ⟨0, 0, 0, ⟨none, 0, []⟩⟩, A, c, l⟩ := by
  refine ⟨?_, fed_none, Fi.Fine.nil, fun s hs => (h.each s hs).2.2.2.2.2.2.1⟩
  have hn : Wr.num (q : Int) = true := by simp only [Wr.num, Bool.and_eq_true, decide_eq_true_eq]; omega
  simp [Wr.right, hn, h.right hl, Wr.same, Wr.frints, Cd.event_refl, Cd.sub_refl, Cd.subs_refl]
theorem ft_size1 : (Tryz.prog.info? 31).map (·.size) = some 1 := by kernel_rfl
theorem sbs_size1 : (Tryz.prog.info? 36).map (·.size) = some 1 := by kernel_rfl
theorem ch_size1 : (Tryz.prog.info? 35).map (·.size) = some 5 := by kernel_rfl
theorem fr_size1 : (Tryz.prog.info? 38).map (·.size) = some 19 := by kernel_rfl
/-- An Event of its own, all of whose parts are right. -/
structure Evo (B : Nat) (w' : World) (x : Ev) : Prop where
  c : 1 ≤ x.c ∧ x.c ≤ 6
  b : 0 ≤ x.b ∧ x.b < 8
  s : 1 ≤ x.s ∧ x.s ≤ 4611686018427387904
  e : 0 ≤ x.e ∧ x.e < 4
  a : 0 ≤ x.a ∧ x.a < 9
  l : At.Fed 5 x.l
  t : ∃ m, m ≤ 16 ∧ Wr.Sted m x.t ∧ x.t.length ≤ 4
  ol : OwnA B w' (.slice x.A x.l.length x.ca) x.l
  ot : OwnT B w' (.slice x.B x.t.length x.cb) x.t
theorem Evd.base {w0 w w' : World} {x : Ev} (h : Evd w w' x) (hb : w0.heap.size ≤ w.heap.size) : Evo w0.heap.size w' x := ⟨h.c, h.b, h.s, h.e, h.a, h.l, h.t, own_sub h.ol hb, ownw_sub h.ot hb⟩
theorem Fst.event {B b a gx : Nat} {w wr : World} {x : Fr} {e : Ev} (h : Fst B b a gx w wr x) (hE : Evo w.heap.size wr e) : Fro w.heap.size wr { x with e := e } := ⟨hE.ol, hE.ot, h.own.s, h.own.l, h.own.each⟩
theorem Fst.event2 {B b a gx p : Nat} {w wr : World} {x x' : Fr} {cs : List Value} {e : Ev} (h : Fst B b a gx w wr x) (hE : Evo w.heap.size wr e) (hp : part x.cells p cs = x'.cells) : Evo w.heap.size (wr.setRow gx (part x.cells p cs).toArray) e :=
  have h2 := (ffset_frame hp h.row).2
  ⟨hE.c, hE.b, hE.s, hE.e, hE.a, hE.l, hE.t, OwnW.kept hE.ol h2 (ownw_not hE.ol h.row (by decide)), OwnW.kept hE.ot h2 (ownw_not hE.ot h.row (by decide))⟩
theorem atfed_right {l : List Att} (h : At.Fed 5 l) : At.right l = true := h.good.right
theorem Evo.right {B : Nat} {w : World} {x : Ev} (h : Evo B w x) : Wr.rightEv x = true := by
  have h1 := h.c
  have h2 := h.b
  have h3 := h.s
  have h4 := h.e
  have h5 := h.a
  obtain ⟨m, hm, hs, hl⟩ := h.t
  have e1 : Wr.broker x.b = true := by simp only [Wr.broker, Bool.and_eq_true, decide_eq_true_eq]; omega
  have e2 : Wr.client x.c = true := by simp only [Wr.client, Bool.and_eq_true, decide_eq_true_eq]; omega
  have e3 : Wr.cnt x.s = true := by simp only [Wr.cnt, Bool.and_eq_true, decide_eq_true_eq]; omega
  have e4 : Wr.num x.e = true := by simp only [Wr.num, Bool.and_eq_true, decide_eq_true_eq]; omega
  have e5 : Wr.num x.a = true := by simp only [Wr.num, Bool.and_eq_true, decide_eq_true_eq]; omega
  have e6 : At.right x.l = true := atfed_right h.l
  have e7 := hs.right (by omega) (by omega)
  simp [Wr.rightEv, e1, e2, e3, e4, e5, e6, e7]
theorem frd_fall {B : Nat} {w : World} {x : Ev} (h : Evo B w x) : Frd ⟨6, 0, 0, 0, 0, 0, x, false, ⟨0, 0, 0, ⟨none, 0, []⟩⟩, none, 0, []⟩ := by
  refine ⟨?_, h.l, Fi.Fine.nil, fun s hs => by cases hs⟩
  have e1 := h.right
  simp [Wr.right, e1, Wr.same, Wr.frints, Cd.event_refl, Cd.sub_refl, Cd.subs_refl]
theorem frd_rise {B q1 : Nat} {w : World} {x : Ev} (hq : (q1 : Int) < 8) (h : Evo B w x) : Frd ⟨5, (q1 : Int), 0, 0, 0, 0, x, false, ⟨0, 0, 0, ⟨none, 0, []⟩⟩, none, 0, []⟩ := by
  refine ⟨?_, h.l, Fi.Fine.nil, fun s hs => by cases hs⟩
  have e1 := h.right
  have e2 : Wr.broker (q1 : Int) = true := by simp only [Wr.broker, Bool.and_eq_true, decide_eq_true_eq]; omega
  simp [Wr.right, e1, e2, Wr.same, Wr.frints, Cd.event_refl, Cd.sub_refl, Cd.subs_refl]
set_option maxRecDepth 100000 in
set_option maxHeartbeats 16000000 in
theorem feedframe_any {B b a : Nat} (w : World) (ha : a < 4611686018426000000) (hf : IsFeed B w b a) :
    Calls Tryz.prog 7 #[.pointer (some ⟨b, 0, none⟩)] w (FramePost B b a w) := by
  have hlt := hf.lt
  have HF := Lib.hid hf
  clear hf
  go_enter Tryz.func7, Tryz.ntmps7
  go_upto_region 1 with fail
  have hn := one_new w (frbox fr00)
  have HR0 := Lib.hid (heap_alloc_new w (frbox fr00))
  have HF0 := Lib.hid (HF.out.below hn)
  have HK0 := Lib.hid (Kept.ofBelow (S := (· = b)) hn)
  have hs0 := hn.size
  clear hn HF
  dsimp only [frbox, fr00, ev00, List.length_nil] at HR0 HF0 HK0 hs0
  generalize w.alloc _ = w0 at HR0 HF0 HK0 hs0 ⊢
  go_wp2_with fail
  refine (next_any 8 (by omega) (by omega) _ (by omega) HF0.out).mono ?_
  rintro e w1 ⟨k1, hk1, rfl, hF, hK, -⟩
  have HF1 := Lib.hid hF
  have HR1 := Lib.hid (hK.row HR0.out (by show ¬ w.heap.size = b; omega))
  have HK1 := Lib.hid (HK0.out.then hK)
  clear hF hK HF0 HR0 HK0
  have hn := one_new w1 (frbox fr00)
  obtain ⟨hx1, hx2⟩ := ffset_frame (w := w1.alloc (frbox fr00)) (g := w1.heap.size) (p := 0) (x := fr00) (x' := ⟨1 + (k1 : Int), 0, 0, 0, 0, 0, ev00, false, ⟨0, 0, 0, ⟨none, 0, []⟩⟩, none, 0, []⟩) (cs := Fr.cells ⟨1 + (k1 : Int), 0, 0, 0, 0, 0, ev00, false, ⟨0, 0, 0, ⟨none, 0, []⟩⟩, none, 0, []⟩) rfl (heap_alloc_new w1 (frbox fr00))
  have HXa := Lib.hid (heap_alloc_new w1 (frbox fr00))
  have HX2 := Lib.hid hx1
  have HS2 := Lib.hid hx2
  have HFa := Lib.hid (HF1.out.below hn)
  have HRa := Lib.hid (below_row hn HR1.out)
  have HKa := Lib.hid (HK1.out.then (Kept.ofBelow (S := (· = b)) hn))
  have hs1 := (Array.getElem?_eq_some_iff.1 HR1.out).1
  clear hn HF1 HR1 HK1 hx1 hx2
  dsimp only [frbox, fr00, ev00, List.length_nil] at HXa HX2 HS2 HFa HRa HKa
  go_upto_region 2 with (first | (refine wpList_store_part rfl 38 _ _ rfl w1.heap.size 0 _ (Fr.cells ⟨1 + (k1 : Int), 0, 0, 0, 0, 0, ev00, false, ⟨0, 0, 0, ⟨none, 0, []⟩⟩, none, 0, []⟩) rfl rfl rfl 38 fr00.cells HXa.out fr_size1 (show (19 : Nat) ≤ 19 by decide) (ffr_one _) ?_; generalize World.setRow (World.alloc w1 _) _ _ = w2 at HX2 HS2 ⊢))
  have hszx : w1.heap.size < (w1.alloc (frbox fr00)).heap.size := by rw [World.size_alloc]; omega
  have hS0 : Fst B b (a + 1) w1.heap.size w w2 ⟨1 + (k1 : Int), 0, 0, 0, 0, 0, ev00, false, ⟨0, 0, 0, ⟨none, 0, []⟩⟩, none, 0, []⟩ := by
    have h2 := HS2.out
    have hB := HFa.out.1
    have hK := HKa.out.trans h2 (fun i hi e => by have e' : i = w1.heap.size := e; omega)
    exact ⟨Fro.none hK.size rfl rfl rfl rfl rfl, HX2.out, h2.row HRa.out (by show ¬ w.heap.size = w1.heap.size; omega), HFa.out.kept h2 (by show ¬ b = w1.heap.size; omega) (fun i hi e => by have e' : i = w1.heap.size := e; omega), hK, hlt, hs1⟩
  have HS := Lib.hid hS0
  clear hS0 HX2 HS2 HXa HFa HRa HKa
  generalize w1.heap.size = gx at HS hs1 hszx ⊢
  obtain rfl | rfl | rfl | rfl | rfl | rfl | rfl | rfl : k1 = 0 ∨ k1 = 1 ∨ k1 = 2 ∨ k1 = 3 ∨ k1 = 4 ∨ k1 = 5 ∨ k1 = 6 ∨ k1 = 7 := by omega
  · have HS : Hid (Fst B b (a + 1) gx w w2 ⟨1, 0, 0, 0, 0, 0, ev00, false, ⟨0, 0, 0, ⟨none, 0, []⟩⟩, none, 0, []⟩) := HS
    have hc0 : w2.cell? ⟨gx, 0, none⟩ = some (.int .i64 1) := cell_of_row w2 gx 0 _ _ _ HS.out.row
    go_upto_region 5 with fail
    refine (next_any 2 (by omega) (by omega) _ (by omega) HS.out.feed).mono ?_
    rintro e w3 ⟨q0, hq0, rfl, hF, hK, -⟩
    have HS3 := Lib.hid (HS.out.fed hK hF)
    clear hF hK HS
    go_upto_region 5 with fail
    refine (next_any 6 (by omega) (by omega) _ (by omega) HS3.out.feed).mono ?_
    rintro e w4 ⟨q1, hq1, rfl, hF, hK, -⟩
    have HS4 := Lib.hid (HS3.out.fed hK hF)
    clear hF hK HS3
    go_upto_region 5 with fail
    refine (next_any 8 (by omega) (by omega) _ (by omega) HS4.out.feed).mono ?_
    rintro e w5 ⟨q2, hq2, rfl, hF, hK, -⟩
    have HS5 := Lib.hid (HS4.out.fed hK hF)
    clear hF hK HS4
    go_upto_region 5 with fail
    refine (next_any 200 (by omega) (by omega) _ (by omega) HS5.out.feed).mono ?_
    rintro e w6 ⟨q3, hq3, rfl, hF, hK, -⟩
    have HS6 := Lib.hid (HS5.out.fed hK hF)
    clear hF hK HS5
    obtain rfl | rfl : q0 = 0 ∨ q0 = 1 := by omega
    · have HS7 := Lib.hid (HS6.out.set (p := 13) (cs := chcells false ⟨1 + (q1 : Int), (q2 : Int), 1 + (q3 : Int), ⟨none, 0, []⟩⟩) (x' := ⟨1, 0, 0, 0, 0, 0, ev00, false, ⟨1 + (q1 : Int), (q2 : Int), 1 + (q3 : Int), ⟨none, 0, []⟩⟩, none, 0, []⟩) rfl (Fro.none HS6.out.kept.size rfl rfl rfl rfl rfl))
      go_upto_region 5 with (first | (refine wpList_store_part rfl 35 _ _ rfl gx 13 _ (chcells false ⟨1 + (q1 : Int), (q2 : Int), 1 + (q3 : Int), ⟨none, 0, []⟩⟩) rfl rfl rfl 38 (Fr.cells ⟨1, 0, 0, 0, 0, 0, ev00, false, ⟨0, 0, 0, ⟨none, 0, []⟩⟩, none, 0, []⟩) HS6.out.row ch_size1 (show (18 : Nat) ≤ 19 by decide) (fun u hu => by simp only [chcells, Sb.cells, List.mem_cons, List.not_mem_nil, or_false] at hu; rcases hu with rfl | rfl | rfl | rfl | rfl <;> rfl) ?_; generalize World.setRow w6 _ _ = w7 at HS7 ⊢))
      clear HS6
      have hg7 : w7.cell? ⟨gx, 13, none⟩ = some (.bool false) := cell_of_row w7 gx 13 _ _ _ HS7.out.row
      go_upto_region 21 with fail
      refine (feedfilter_any _ (by omega) HS7.out.feed).mono ?_
      rintro e w8 ⟨f, rfl, hfine, hown, hF, hK⟩
      have HS8 := Lib.hid (HS7.out.fed hK hF)
      have HO := Lib.hid (hown.sub HS7.out.kept.size)
      have HFine := Lib.hid hfine
      clear hF hK hown hfine HS7 hg7
      have HS9 := Lib.hid (HS8.out.set (p := 17) (cs := [.slice f.A f.l.length f.c]) (x' := ⟨1, 0, 0, 0, 0, 0, ev00, false, ⟨1 + (q1 : Int), (q2 : Int), 1 + (q3 : Int), f⟩, none, 0, []⟩) rfl (HS8.out.filt HO.out))
      go_upto_region 21 with (first | (refine wpList_store_part rfl 31 _ _ rfl gx 17 _ [.slice f.A f.l.length f.c] rfl rfl rfl 38 (Fr.cells ⟨1, 0, 0, 0, 0, 0, ev00, false, ⟨1 + (q1 : Int), (q2 : Int), 1 + (q3 : Int), ⟨none, 0, []⟩⟩, none, 0, []⟩) HS8.out.row ft_size1 (show (18 : Nat) ≤ 19 by decide) (fun u hu => by rw [List.mem_singleton.1 hu]; rfl) ?_; generalize World.setRow w8 _ _ = w9 at HS9 ⊢))
      clear HS8
      have HC := Lib.hid (cells_row (cs := Fr.cells ⟨1, 0, 0, 0, 0, 0, ev00, false, ⟨1 + (q1 : Int), (q2 : Int), 1 + (q3 : Int), f⟩, none, 0, []⟩) HS9.out.row)
      have HEN := Lib.hid HS9.out.ends
      have HRS := Lib.hid HS9.out.res
      go_wp2_with (first | (refine wpList_load_at rfl 38 _ rfl gx 0 (Fr.cells ⟨1, 0, 0, 0, 0, 0, ev00, false, ⟨1 + (q1 : Int), (q2 : Int), 1 + (q3 : Int), f⟩, none, 0, []⟩) _ rfl HC.out Tryz.underlying38 rfl fr_size1 ?_; dsimp only [Fr.cells]) | (refine wpList_store_part rfl 38 _ _ rfl w.heap.size 0 _ (Fr.cells ⟨1, 0, 0, 0, 0, 0, ev00, false, ⟨1 + (q1 : Int), (q2 : Int), 1 + (q3 : Int), f⟩, none, 0, []⟩) rfl rfl rfl 38 fr00.cells HRS.out fr_size1 (show (19 : Nat) ≤ 19 by decide) (ffr_one _) ?_; generalize World.setRow w9 _ _ = wz at HEN ⊢) | fail)
      obtain ⟨g1, g2, g3, g4⟩ := HEN.out
      refine bodyPost_ret (results_cell_row rfl _ _ _ _ _ _ _ rfl g1 Tryz.underlying38 rfl (by kernel_rfl)) rfl ?_
      exact ⟨_, rfl, frd_change hq1 hq2 hq3 HFine.out (fun e => by cases e), g2, g3.more (by omega), g4⟩
    · have HS7 := Lib.hid (HS6.out.set (p := 13) (cs := chcells true ⟨1 + (q1 : Int), (q2 : Int), 1 + (q3 : Int), ⟨none, 0, []⟩⟩) (x' := ⟨1, 0, 0, 0, 0, 0, ev00, true, ⟨1 + (q1 : Int), (q2 : Int), 1 + (q3 : Int), ⟨none, 0, []⟩⟩, none, 0, []⟩) rfl (Fro.none HS6.out.kept.size rfl rfl rfl rfl rfl))
      go_upto_region 5 with (first | (refine wpList_store_part rfl 35 _ _ rfl gx 13 _ (chcells true ⟨1 + (q1 : Int), (q2 : Int), 1 + (q3 : Int), ⟨none, 0, []⟩⟩) rfl rfl rfl 38 (Fr.cells ⟨1, 0, 0, 0, 0, 0, ev00, false, ⟨0, 0, 0, ⟨none, 0, []⟩⟩, none, 0, []⟩) HS6.out.row ch_size1 (show (18 : Nat) ≤ 19 by decide) (fun u hu => by simp only [chcells, Sb.cells, List.mem_cons, List.not_mem_nil, or_false] at hu; rcases hu with rfl | rfl | rfl | rfl | rfl <;> rfl) ?_; generalize World.setRow w6 _ _ = w7 at HS7 ⊢))
      clear HS6
      have hg7 : w7.cell? ⟨gx, 13, none⟩ = some (.bool true) := cell_of_row w7 gx 13 _ _ _ HS7.out.row
      go_upto_region 21 with fail
      have HC := Lib.hid (cells_row (cs := Fr.cells ⟨1, 0, 0, 0, 0, 0, ev00, true, ⟨1 + (q1 : Int), (q2 : Int), 1 + (q3 : Int), ⟨none, 0, []⟩⟩, none, 0, []⟩) HS7.out.row)
      have HEN := Lib.hid HS7.out.ends
      have HRS := Lib.hid HS7.out.res
      go_wp2_with (first | (refine wpList_load_at rfl 38 _ rfl gx 0 (Fr.cells ⟨1, 0, 0, 0, 0, 0, ev00, true, ⟨1 + (q1 : Int), (q2 : Int), 1 + (q3 : Int), ⟨none, 0, []⟩⟩, none, 0, []⟩) _ rfl HC.out Tryz.underlying38 rfl fr_size1 ?_; dsimp only [Fr.cells]) | (refine wpList_store_part rfl 38 _ _ rfl w.heap.size 0 _ (Fr.cells ⟨1, 0, 0, 0, 0, 0, ev00, true, ⟨1 + (q1 : Int), (q2 : Int), 1 + (q3 : Int), ⟨none, 0, []⟩⟩, none, 0, []⟩) rfl rfl rfl 38 fr00.cells HRS.out fr_size1 (show (19 : Nat) ≤ 19 by decide) (ffr_one _) ?_; generalize World.setRow w7 _ _ = wz at HEN ⊢) | fail)
      obtain ⟨g1, g2, g3, g4⟩ := HEN.out
      refine bodyPost_ret (results_cell_row rfl _ _ _ _ _ _ _ rfl g1 Tryz.underlying38 rfl (by kernel_rfl)) rfl ?_
      exact ⟨_, rfl, frd_change hq1 hq2 hq3 Fi.Fine.nil (fun _ => rfl), g2, g3.more (by omega), g4⟩
  · have HS : Hid (Fst B b (a + 1) gx w w2 ⟨2, 0, 0, 0, 0, 0, ev00, false, ⟨0, 0, 0, ⟨none, 0, []⟩⟩, none, 0, []⟩) := HS
    have hc0 : w2.cell? ⟨gx, 0, none⟩ = some (.int .i64 2) := cell_of_row w2 gx 0 _ _ _ HS.out.row
    go_upto_region 21 with fail
    refine (next_any 500 (by omega) (by omega) _ (by omega) HS.out.feed).mono ?_
    rintro e w3 ⟨q, hq, rfl, hF, hK, -⟩
    have HS3 := Lib.hid (HS.out.fed hK hF)
    clear hF hK HS
    have HS4 := Lib.hid (HS3.out.set (p := 5) (cs := [.int .i64 (q : Int)]) (x' := ⟨2, 0, 0, 0, 0, (q : Int), ev00, false, ⟨0, 0, 0, ⟨none, 0, []⟩⟩, none, 0, []⟩) rfl (Fro.none HS3.out.kept.size rfl rfl rfl rfl rfl))
    go_upto_region 21 with (first | (refine wpList_store_part rfl 3 _ _ rfl gx 5 _ [.int .i64 (q : Int)] rfl rfl rfl 38 (Fr.cells ⟨2, 0, 0, 0, 0, 0, ev00, false, ⟨0, 0, 0, ⟨none, 0, []⟩⟩, none, 0, []⟩) HS3.out.row int_size1 (show (6 : Nat) ≤ 19 by decide) (fun u hu => by rw [List.mem_singleton.1 hu]; rfl) ?_; generalize World.setRow w3 _ _ = w4 at HS4 ⊢))
    clear HS3
    have HC := Lib.hid (cells_row (cs := Fr.cells ⟨2, 0, 0, 0, 0, (q : Int), ev00, false, ⟨0, 0, 0, ⟨none, 0, []⟩⟩, none, 0, []⟩) HS4.out.row)
    have HEN := Lib.hid HS4.out.ends
    have HRS := Lib.hid HS4.out.res
    go_wp2_with (first | (refine wpList_load_at rfl 38 _ rfl gx 0 (Fr.cells ⟨2, 0, 0, 0, 0, (q : Int), ev00, false, ⟨0, 0, 0, ⟨none, 0, []⟩⟩, none, 0, []⟩) _ rfl HC.out Tryz.underlying38 rfl fr_size1 ?_; dsimp only [Fr.cells]) | (refine wpList_store_part rfl 38 _ _ rfl w.heap.size 0 _ (Fr.cells ⟨2, 0, 0, 0, 0, (q : Int), ev00, false, ⟨0, 0, 0, ⟨none, 0, []⟩⟩, none, 0, []⟩) rfl rfl rfl 38 fr00.cells HRS.out fr_size1 (show (19 : Nat) ≤ 19 by decide) (ffr_one _) ?_; generalize World.setRow w4 _ _ = wz at HEN ⊢) | fail)
    obtain ⟨g1, g2, g3, g4⟩ := HEN.out
    refine bodyPost_ret (results_cell_row rfl _ _ _ _ _ _ _ rfl g1 Tryz.underlying38 rfl (by kernel_rfl)) rfl ?_
    exact ⟨_, rfl, frd_epoch (by omega) hq, g2, g3.more (by omega), g4⟩
  · have HS : Hid (Fst B b (a + 1) gx w w2 ⟨3, 0, 0, 0, 0, 0, ev00, false, ⟨0, 0, 0, ⟨none, 0, []⟩⟩, none, 0, []⟩) := HS
    have hc0 : w2.cell? ⟨gx, 0, none⟩ = some (.int .i64 3) := cell_of_row w2 gx 0 _ _ _ HS.out.row
    go_upto_region 21 with fail
    refine (next_any 500 (by omega) (by omega) _ (by omega) HS.out.feed).mono ?_
    rintro e w3 ⟨q, hq, rfl, hF, hK, -⟩
    have HS3 := Lib.hid (HS.out.fed hK hF)
    clear hF hK HS
    have HS4 := Lib.hid (HS3.out.set (p := 5) (cs := [.int .i64 (q : Int)]) (x' := ⟨3, 0, 0, 0, 0, (q : Int), ev00, false, ⟨0, 0, 0, ⟨none, 0, []⟩⟩, none, 0, []⟩) rfl (Fro.none HS3.out.kept.size rfl rfl rfl rfl rfl))
    go_upto_region 21 with (first | (refine wpList_store_part rfl 3 _ _ rfl gx 5 _ [.int .i64 (q : Int)] rfl rfl rfl 38 (Fr.cells ⟨3, 0, 0, 0, 0, 0, ev00, false, ⟨0, 0, 0, ⟨none, 0, []⟩⟩, none, 0, []⟩) HS3.out.row int_size1 (show (6 : Nat) ≤ 19 by decide) (fun u hu => by rw [List.mem_singleton.1 hu]; rfl) ?_; generalize World.setRow w3 _ _ = w4 at HS4 ⊢))
    clear HS3
    have HC := Lib.hid (cells_row (cs := Fr.cells ⟨3, 0, 0, 0, 0, (q : Int), ev00, false, ⟨0, 0, 0, ⟨none, 0, []⟩⟩, none, 0, []⟩) HS4.out.row)
    have HEN := Lib.hid HS4.out.ends
    have HRS := Lib.hid HS4.out.res
    go_wp2_with (first | (refine wpList_load_at rfl 38 _ rfl gx 0 (Fr.cells ⟨3, 0, 0, 0, 0, (q : Int), ev00, false, ⟨0, 0, 0, ⟨none, 0, []⟩⟩, none, 0, []⟩) _ rfl HC.out Tryz.underlying38 rfl fr_size1 ?_; dsimp only [Fr.cells]) | (refine wpList_store_part rfl 38 _ _ rfl w.heap.size 0 _ (Fr.cells ⟨3, 0, 0, 0, 0, (q : Int), ev00, false, ⟨0, 0, 0, ⟨none, 0, []⟩⟩, none, 0, []⟩) rfl rfl rfl 38 fr00.cells HRS.out fr_size1 (show (19 : Nat) ≤ 19 by decide) (ffr_one _) ?_; generalize World.setRow w4 _ _ = wz at HEN ⊢) | fail)
    obtain ⟨g1, g2, g3, g4⟩ := HEN.out
    refine bodyPost_ret (results_cell_row rfl _ _ _ _ _ _ _ rfl g1 Tryz.underlying38 rfl (by kernel_rfl)) rfl ?_
    exact ⟨_, rfl, frd_epoch (by omega) hq, g2, g3.more (by omega), g4⟩
  · have HS : Hid (Fst B b (a + 1) gx w w2 ⟨4, 0, 0, 0, 0, 0, ev00, false, ⟨0, 0, 0, ⟨none, 0, []⟩⟩, none, 0, []⟩) := HS
    have hc0 : w2.cell? ⟨gx, 0, none⟩ = some (.int .i64 4) := cell_of_row w2 gx 0 _ _ _ HS.out.row
    go_upto_region 21 with fail
    refine (next_any 500 (by omega) (by omega) _ (by omega) HS.out.feed).mono ?_
    rintro e w3 ⟨q, hq, rfl, hF, hK, -⟩
    have HS3 := Lib.hid (HS.out.fed hK hF)
    clear hF hK HS
    have hn3 := one_new w3 (.cells #[.int .i64 0, .int .i64 0, .int .i64 1] 3)
    have HS4 := Lib.hid (HS3.out.later hn3)
    clear hn3 HS3
    go_upto_region 21 with fail
    generalize w3.alloc _ = w4 at HS4 ⊢
    refine (feedsubs_any (by decide) _ (by omega) HS4.out.feed).mono ?_
    rintro e w5 ⟨v, l, rfl, hsd, hl18, hol, hoe, hF, hK⟩
    have HS5 := Lib.hid (HS4.out.fed hK hF)
    have HD := Lib.hid hsd
    have HOL := Lib.hid (ownw_sub hol HS4.out.kept.size)
    have HOE : Hid (∀ s, s ∈ l → Owned w.heap.size w5 s.f) := Lib.hid fun s hs => (hoe s hs).sub HS4.out.kept.size
    obtain ⟨A, c, rfl, -, -, -, -, -, -⟩ := OwnW.reads hol
    clear hF hK hsd hol hoe HS4
    have HS6 := Lib.hid (HS5.out.set (p := 5) (cs := [.int .i64 (q : Int)]) (x' := ⟨4, 0, 0, 0, 0, (q : Int), ev00, false, ⟨0, 0, 0, ⟨none, 0, []⟩⟩, none, 0, []⟩) rfl (Fro.none HS5.out.kept.size rfl rfl rfl rfl rfl))
    have hk6 := (ffset_frame (w := w5) (g := gx) (p := 5) (x := ⟨4, 0, 0, 0, 0, 0, ev00, false, ⟨0, 0, 0, ⟨none, 0, []⟩⟩, none, 0, []⟩) (x' := ⟨4, 0, 0, 0, 0, (q : Int), ev00, false, ⟨0, 0, 0, ⟨none, 0, []⟩⟩, none, 0, []⟩) (cs := [.int .i64 (q : Int)]) rfl HS5.out.row).2
    have HOL6 := Lib.hid (OwnW.kept HOL.out hk6 (ownw_not HOL.out HS5.out.row (by decide)))
    have HOE6 : Hid (∀ s, s ∈ l → Owned w.heap.size (w5.setRow gx (part (Fr.cells ⟨4, 0, 0, 0, 0, 0, ev00, false, ⟨0, 0, 0, ⟨none, 0, []⟩⟩, none, 0, []⟩) 5 [.int .i64 (q : Int)]).toArray) s.f) := Lib.hid fun s hs => (HOE.out s hs).frame hk6 HS5.out.row
    have HS7 := Lib.hid (HS6.out.set (p := 18) (cs := [.slice A l.length c]) (x' := ⟨4, 0, 0, 0, 0, (q : Int), ev00, false, ⟨0, 0, 0, ⟨none, 0, []⟩⟩, A, c, l⟩) rfl (HS6.out.subs HOL6.out HOE6.out))
    clear hk6 HOL HOE HOL6 HOE6
    go_upto_region 21 with (first | (refine wpList_store_part rfl 3 _ _ rfl gx 5 _ [.int .i64 (q : Int)] rfl rfl rfl 38 (Fr.cells ⟨4, 0, 0, 0, 0, 0, ev00, false, ⟨0, 0, 0, ⟨none, 0, []⟩⟩, none, 0, []⟩) HS5.out.row int_size1 (show (6 : Nat) ≤ 19 by decide) (fun u hu => by rw [List.mem_singleton.1 hu]; rfl) ?_; generalize World.setRow w5 _ _ = w6 at HS6 HS7 ⊢) | (refine wpList_store_part rfl 36 _ _ rfl gx 18 _ [.slice A l.length c] rfl rfl rfl 38 (Fr.cells ⟨4, 0, 0, 0, 0, (q : Int), ev00, false, ⟨0, 0, 0, ⟨none, 0, []⟩⟩, none, 0, []⟩) HS6.out.row sbs_size1 (show (19 : Nat) ≤ 19 by decide) (fun u hu => by rw [List.mem_singleton.1 hu]; rfl) ?_; generalize World.setRow w6 _ _ = w7 at HS7 ⊢))
    clear HS5 HS6
    have HC := Lib.hid (cells_row (cs := Fr.cells ⟨4, 0, 0, 0, 0, (q : Int), ev00, false, ⟨0, 0, 0, ⟨none, 0, []⟩⟩, A, c, l⟩) HS7.out.row)
    have HEN := Lib.hid HS7.out.ends
    have HRS := Lib.hid HS7.out.res
    go_wp2_with (first | (refine wpList_load_at rfl 38 _ rfl gx 0 (Fr.cells ⟨4, 0, 0, 0, 0, (q : Int), ev00, false, ⟨0, 0, 0, ⟨none, 0, []⟩⟩, A, c, l⟩) _ rfl HC.out Tryz.underlying38 rfl fr_size1 ?_; dsimp only [Fr.cells]) | (refine wpList_store_part rfl 38 _ _ rfl w.heap.size 0 _ (Fr.cells ⟨4, 0, 0, 0, 0, (q : Int), ev00, false, ⟨0, 0, 0, ⟨none, 0, []⟩⟩, A, c, l⟩) rfl rfl rfl 38 fr00.cells HRS.out fr_size1 (show (19 : Nat) ≤ 19 by decide) (ffr_one _) ?_; generalize World.setRow w7 _ _ = wz at HEN ⊢) | fail)
    obtain ⟨g1, g2, g3, g4⟩ := HEN.out
    refine bodyPost_ret (results_cell_row rfl _ _ _ _ _ _ _ rfl g1 Tryz.underlying38 rfl (by kernel_rfl)) rfl ?_
    exact ⟨_, rfl, frd_open hq HD.out hl18, g2, g3.more (by omega), g4⟩
  · have HS : Hid (Fst B b (a + 1) gx w w2 ⟨5, 0, 0, 0, 0, 0, ev00, false, ⟨0, 0, 0, ⟨none, 0, []⟩⟩, none, 0, []⟩) := HS
    have hc0 : w2.cell? ⟨gx, 0, none⟩ = some (.int .i64 5) := cell_of_row w2 gx 0 _ _ _ HS.out.row
    go_upto_region 21 with fail
    refine (next_any 8 (by omega) (by omega) _ (by omega) HS.out.feed).mono ?_
    rintro e w3 ⟨q1, hq1, rfl, hF, hK, -⟩
    have HS3 := Lib.hid (HS.out.fed hK hF)
    clear hF hK HS
    go_upto_region 21 with fail
    have hse := HS3.out.kept.size
    refine (feedevent_any _ (by omega) HS3.out.feed).mono ?_
    rintro e w5 ⟨x, rfl, hx, hF, hK⟩
    have HS5 := Lib.hid (HS3.out.fed hK hF)
    have HX := Lib.hid (hx.base hse)
    clear hF hK HS3 hx hse
    have HS6 := Lib.hid (HS5.out.set (p := 1) (cs := [.int .i64 (q1 : Int)]) (x' := ⟨5, (q1 : Int), 0, 0, 0, 0, ev00, false, ⟨0, 0, 0, ⟨none, 0, []⟩⟩, none, 0, []⟩) rfl (Fro.none HS5.out.kept.size rfl rfl rfl rfl rfl))
    have HS7 := Lib.hid (HS6.out.set (p := 6) (cs := (Ev.cells x)) (x' := ⟨5, (q1 : Int), 0, 0, 0, 0, x, false, ⟨0, 0, 0, ⟨none, 0, []⟩⟩, none, 0, []⟩) rfl (HS6.out.event (HS5.out.event2 (p := 1) (cs := [.int .i64 (q1 : Int)]) (x' := ⟨5, (q1 : Int), 0, 0, 0, 0, ev00, false, ⟨0, 0, 0, ⟨none, 0, []⟩⟩, none, 0, []⟩) HX.out rfl)))
    go_upto_region 21 with (first | (refine wpList_store_part rfl 3 _ _ rfl gx 1 _ [.int .i64 (q1 : Int)] rfl rfl rfl 38 (Fr.cells ⟨5, 0, 0, 0, 0, 0, ev00, false, ⟨0, 0, 0, ⟨none, 0, []⟩⟩, none, 0, []⟩) HS5.out.row int_size1 (show (2 : Nat) ≤ 19 by decide) (fun u hu => by rw [List.mem_singleton.1 hu]; rfl) ?_; generalize World.setRow w5 _ _ = w6 at HS6 HS7 ⊢) | (refine wpList_store_part rfl 30 _ _ rfl gx 6 _ (Ev.cells x) rfl rfl rfl 38 (Fr.cells ⟨5, (q1 : Int), 0, 0, 0, 0, ev00, false, ⟨0, 0, 0, ⟨none, 0, []⟩⟩, none, 0, []⟩) HS6.out.row ev_size (show (13 : Nat) ≤ 19 by decide) (ev_one x) ?_; generalize World.setRow w6 _ _ = w7 at HS7 ⊢))
    clear HS5 HS6
    have HC := Lib.hid (cells_row (cs := Fr.cells ⟨5, (q1 : Int), 0, 0, 0, 0, x, false, ⟨0, 0, 0, ⟨none, 0, []⟩⟩, none, 0, []⟩) HS7.out.row)
    have HEN := Lib.hid HS7.out.ends
    have HRS := Lib.hid HS7.out.res
    go_wp2_with (first | (refine wpList_load_at rfl 38 _ rfl gx 0 (Fr.cells ⟨5, (q1 : Int), 0, 0, 0, 0, x, false, ⟨0, 0, 0, ⟨none, 0, []⟩⟩, none, 0, []⟩) _ rfl HC.out Tryz.underlying38 rfl fr_size1 ?_; dsimp only [Fr.cells]) | (refine wpList_store_part rfl 38 _ _ rfl w.heap.size 0 _ (Fr.cells ⟨5, (q1 : Int), 0, 0, 0, 0, x, false, ⟨0, 0, 0, ⟨none, 0, []⟩⟩, none, 0, []⟩) rfl rfl rfl 38 fr00.cells HRS.out fr_size1 (show (19 : Nat) ≤ 19 by decide) (ffr_one _) ?_; generalize World.setRow w7 _ _ = wz at HEN ⊢) | fail)
    obtain ⟨g1, g2, g3, g4⟩ := HEN.out
    refine bodyPost_ret (results_cell_row rfl _ _ _ _ _ _ _ rfl g1 Tryz.underlying38 rfl (by kernel_rfl)) rfl ?_
    exact ⟨_, rfl, frd_rise hq1 HX.out, g2, g3.more (by omega), g4⟩
  · have HS : Hid (Fst B b (a + 1) gx w w2 ⟨6, 0, 0, 0, 0, 0, ev00, false, ⟨0, 0, 0, ⟨none, 0, []⟩⟩, none, 0, []⟩) := HS
    have hc0 : w2.cell? ⟨gx, 0, none⟩ = some (.int .i64 6) := cell_of_row w2 gx 0 _ _ _ HS.out.row
    go_upto_region 21 with fail
    have hse := HS.out.kept.size
    refine (feedevent_any _ (by omega) HS.out.feed).mono ?_
    rintro e w5 ⟨x, rfl, hx, hF, hK⟩
    have HS5 := Lib.hid (HS.out.fed hK hF)
    have HX := Lib.hid (hx.base hse)
    clear hF hK HS hx hse
    have HS6 := Lib.hid (HS5.out.set (p := 6) (cs := (Ev.cells x)) (x' := ⟨6, 0, 0, 0, 0, 0, x, false, ⟨0, 0, 0, ⟨none, 0, []⟩⟩, none, 0, []⟩) rfl (HS5.out.event HX.out))
    go_upto_region 21 with (first | (refine wpList_store_part rfl 30 _ _ rfl gx 6 _ (Ev.cells x) rfl rfl rfl 38 (Fr.cells ⟨6, 0, 0, 0, 0, 0, ev00, false, ⟨0, 0, 0, ⟨none, 0, []⟩⟩, none, 0, []⟩) HS5.out.row ev_size (show (13 : Nat) ≤ 19 by decide) (ev_one x) ?_; generalize World.setRow w5 _ _ = w6 at HS6 ⊢))
    clear HS5
    have HC := Lib.hid (cells_row (cs := Fr.cells ⟨6, 0, 0, 0, 0, 0, x, false, ⟨0, 0, 0, ⟨none, 0, []⟩⟩, none, 0, []⟩) HS6.out.row)
    have HEN := Lib.hid HS6.out.ends
    have HRS := Lib.hid HS6.out.res
    go_wp2_with (first | (refine wpList_load_at rfl 38 _ rfl gx 0 (Fr.cells ⟨6, 0, 0, 0, 0, 0, x, false, ⟨0, 0, 0, ⟨none, 0, []⟩⟩, none, 0, []⟩) _ rfl HC.out Tryz.underlying38 rfl fr_size1 ?_; dsimp only [Fr.cells]) | (refine wpList_store_part rfl 38 _ _ rfl w.heap.size 0 _ (Fr.cells ⟨6, 0, 0, 0, 0, 0, x, false, ⟨0, 0, 0, ⟨none, 0, []⟩⟩, none, 0, []⟩) rfl rfl rfl 38 fr00.cells HRS.out fr_size1 (show (19 : Nat) ≤ 19 by decide) (ffr_one _) ?_; generalize World.setRow w6 _ _ = wz at HEN ⊢) | fail)
    obtain ⟨g1, g2, g3, g4⟩ := HEN.out
    refine bodyPost_ret (results_cell_row rfl _ _ _ _ _ _ _ rfl g1 Tryz.underlying38 rfl (by kernel_rfl)) rfl ?_
    exact ⟨_, rfl, frd_fall HX.out, g2, g3.more (by omega), g4⟩
  · have HS : Hid (Fst B b (a + 1) gx w w2 ⟨7, 0, 0, 0, 0, 0, ev00, false, ⟨0, 0, 0, ⟨none, 0, []⟩⟩, none, 0, []⟩) := HS
    have hc0 : w2.cell? ⟨gx, 0, none⟩ = some (.int .i64 7) := cell_of_row w2 gx 0 _ _ _ HS.out.row
    go_upto_region 19 with fail
    refine (next_any 8 (by omega) (by omega) _ (by omega) HS.out.feed).mono ?_
    rintro e w3 ⟨q1, hq1, rfl, hF, hK, -⟩
    have HS3 := Lib.hid (HS.out.fed hK hF)
    clear hF hK HS
    go_upto_region 19 with fail
    refine (next_any 6 (by omega) (by omega) _ (by omega) HS3.out.feed).mono ?_
    rintro e w4 ⟨q2, hq2, rfl, hF, hK, -⟩
    have HS4 := Lib.hid (HS3.out.fed hK hF)
    clear hF hK HS3
    go_upto_region 19 with fail
    refine (next_any 400 (by omega) (by omega) _ (by omega) HS4.out.feed).mono ?_
    rintro e w5 ⟨q3, hq3, rfl, hF, hK, -⟩
    have HS5 := Lib.hid (HS4.out.fed hK hF)
    clear hF hK HS4
    have HS6 := Lib.hid (HS5.out.set (p := 1) (cs := [.int .i64 (q1 : Int)]) (x' := ⟨7, (q1 : Int), 0, 0, 0, 0, ev00, false, ⟨0, 0, 0, ⟨none, 0, []⟩⟩, none, 0, []⟩) rfl (Fro.none HS5.out.kept.size rfl rfl rfl rfl rfl))
    have HS7 := Lib.hid (HS6.out.set (p := 3) (cs := [.int .i64 (1 + (q2 : Int))]) (x' := ⟨7, (q1 : Int), 0, 1 + (q2 : Int), 0, 0, ev00, false, ⟨0, 0, 0, ⟨none, 0, []⟩⟩, none, 0, []⟩) rfl (Fro.none HS6.out.kept.size rfl rfl rfl rfl rfl))
    have HS8 := Lib.hid (HS7.out.set (p := 4) (cs := [.int .i64 (1 + (q3 : Int))]) (x' := ⟨7, (q1 : Int), 0, 1 + (q2 : Int), 1 + (q3 : Int), 0, ev00, false, ⟨0, 0, 0, ⟨none, 0, []⟩⟩, none, 0, []⟩) rfl (Fro.none HS7.out.kept.size rfl rfl rfl rfl rfl))
    go_upto_region 19 with (first | (refine wpList_store_part rfl 3 _ _ rfl gx 1 _ [.int .i64 (q1 : Int)] rfl rfl rfl 38 (Fr.cells ⟨7, 0, 0, 0, 0, 0, ev00, false, ⟨0, 0, 0, ⟨none, 0, []⟩⟩, none, 0, []⟩) HS5.out.row int_size1 (show (2 : Nat) ≤ 19 by decide) (fun u hu => by rw [List.mem_singleton.1 hu]; rfl) ?_; generalize World.setRow w5 _ _ = w6 at HS6 HS7 HS8 ⊢) | (refine wpList_store_part rfl 3 _ _ rfl gx 3 _ [.int .i64 (1 + (q2 : Int))] rfl rfl rfl 38 (Fr.cells ⟨7, (q1 : Int), 0, 0, 0, 0, ev00, false, ⟨0, 0, 0, ⟨none, 0, []⟩⟩, none, 0, []⟩) HS6.out.row int_size1 (show (4 : Nat) ≤ 19 by decide) (fun u hu => by rw [List.mem_singleton.1 hu]; rfl) ?_; generalize World.setRow w6 _ _ = w7 at HS7 HS8 ⊢) | (refine wpList_store_part rfl 3 _ _ rfl gx 4 _ [.int .i64 (1 + (q3 : Int))] rfl rfl rfl 38 (Fr.cells ⟨7, (q1 : Int), 0, 1 + (q2 : Int), 0, 0, ev00, false, ⟨0, 0, 0, ⟨none, 0, []⟩⟩, none, 0, []⟩) HS7.out.row int_size1 (show (5 : Nat) ≤ 19 by decide) (fun u hu => by rw [List.mem_singleton.1 hu]; rfl) ?_; generalize World.setRow w7 _ _ = w8 at HS8 ⊢))
    clear HS5 HS6 HS7
    have hc8 : w8.cell? ⟨gx, 0, none⟩ = some (.int .i64 7) := cell_of_row w8 gx 0 _ _ _ HS8.out.row
    go_upto_region 21 with fail
    have HC := Lib.hid (cells_row (cs := Fr.cells ⟨7, (q1 : Int), 0, 1 + (q2 : Int), 1 + (q3 : Int), 0, ev00, false, ⟨0, 0, 0, ⟨none, 0, []⟩⟩, none, 0, []⟩) HS8.out.row)
    have HEN := Lib.hid HS8.out.ends
    have HRS := Lib.hid HS8.out.res
    go_wp2_with (first | (refine wpList_load_at rfl 38 _ rfl gx 0 (Fr.cells ⟨7, (q1 : Int), 0, 1 + (q2 : Int), 1 + (q3 : Int), 0, ev00, false, ⟨0, 0, 0, ⟨none, 0, []⟩⟩, none, 0, []⟩) _ rfl HC.out Tryz.underlying38 rfl fr_size1 ?_; dsimp only [Fr.cells]) | (refine wpList_store_part rfl 38 _ _ rfl w.heap.size 0 _ (Fr.cells ⟨7, (q1 : Int), 0, 1 + (q2 : Int), 1 + (q3 : Int), 0, ev00, false, ⟨0, 0, 0, ⟨none, 0, []⟩⟩, none, 0, []⟩) rfl rfl rfl 38 fr00.cells HRS.out fr_size1 (show (19 : Nat) ≤ 19 by decide) (ffr_one _) ?_; generalize World.setRow w8 _ _ = wz at HEN ⊢) | fail)
    obtain ⟨g1, g2, g3, g4⟩ := HEN.out
    refine bodyPost_ret (results_cell_row rfl _ _ _ _ _ _ _ rfl g1 Tryz.underlying38 rfl (by kernel_rfl)) rfl ?_
    exact ⟨_, rfl, frd_passed hq1 hq2 hq3, g2, g3.more (by omega), g4⟩
  · have HS : Hid (Fst B b (a + 1) gx w w2 ⟨8, 0, 0, 0, 0, 0, ev00, false, ⟨0, 0, 0, ⟨none, 0, []⟩⟩, none, 0, []⟩) := HS
    have hc0 : w2.cell? ⟨gx, 0, none⟩ = some (.int .i64 8) := cell_of_row w2 gx 0 _ _ _ HS.out.row
    go_upto_region 19 with fail
    refine (next_any 8 (by omega) (by omega) _ (by omega) HS.out.feed).mono ?_
    rintro e w3 ⟨q1, hq1, rfl, hF, hK, -⟩
    have HS3 := Lib.hid (HS.out.fed hK hF)
    clear hF hK HS
    go_upto_region 19 with fail
    refine (next_any 6 (by omega) (by omega) _ (by omega) HS3.out.feed).mono ?_
    rintro e w4 ⟨q2, hq2, rfl, hF, hK, -⟩
    have HS4 := Lib.hid (HS3.out.fed hK hF)
    clear hF hK HS3
    go_upto_region 19 with fail
    refine (next_any 400 (by omega) (by omega) _ (by omega) HS4.out.feed).mono ?_
    rintro e w5 ⟨q3, hq3, rfl, hF, hK, -⟩
    have HS5 := Lib.hid (HS4.out.fed hK hF)
    clear hF hK HS4
    have HS6 := Lib.hid (HS5.out.set (p := 1) (cs := [.int .i64 (q1 : Int)]) (x' := ⟨8, (q1 : Int), 0, 0, 0, 0, ev00, false, ⟨0, 0, 0, ⟨none, 0, []⟩⟩, none, 0, []⟩) rfl (Fro.none HS5.out.kept.size rfl rfl rfl rfl rfl))
    have HS7 := Lib.hid (HS6.out.set (p := 3) (cs := [.int .i64 (1 + (q2 : Int))]) (x' := ⟨8, (q1 : Int), 0, 1 + (q2 : Int), 0, 0, ev00, false, ⟨0, 0, 0, ⟨none, 0, []⟩⟩, none, 0, []⟩) rfl (Fro.none HS6.out.kept.size rfl rfl rfl rfl rfl))
    have HS8 := Lib.hid (HS7.out.set (p := 4) (cs := [.int .i64 (1 + (q3 : Int))]) (x' := ⟨8, (q1 : Int), 0, 1 + (q2 : Int), 1 + (q3 : Int), 0, ev00, false, ⟨0, 0, 0, ⟨none, 0, []⟩⟩, none, 0, []⟩) rfl (Fro.none HS7.out.kept.size rfl rfl rfl rfl rfl))
    go_upto_region 19 with (first | (refine wpList_store_part rfl 3 _ _ rfl gx 1 _ [.int .i64 (q1 : Int)] rfl rfl rfl 38 (Fr.cells ⟨8, 0, 0, 0, 0, 0, ev00, false, ⟨0, 0, 0, ⟨none, 0, []⟩⟩, none, 0, []⟩) HS5.out.row int_size1 (show (2 : Nat) ≤ 19 by decide) (fun u hu => by rw [List.mem_singleton.1 hu]; rfl) ?_; generalize World.setRow w5 _ _ = w6 at HS6 HS7 HS8 ⊢) | (refine wpList_store_part rfl 3 _ _ rfl gx 3 _ [.int .i64 (1 + (q2 : Int))] rfl rfl rfl 38 (Fr.cells ⟨8, (q1 : Int), 0, 0, 0, 0, ev00, false, ⟨0, 0, 0, ⟨none, 0, []⟩⟩, none, 0, []⟩) HS6.out.row int_size1 (show (4 : Nat) ≤ 19 by decide) (fun u hu => by rw [List.mem_singleton.1 hu]; rfl) ?_; generalize World.setRow w6 _ _ = w7 at HS7 HS8 ⊢) | (refine wpList_store_part rfl 3 _ _ rfl gx 4 _ [.int .i64 (1 + (q3 : Int))] rfl rfl rfl 38 (Fr.cells ⟨8, (q1 : Int), 0, 1 + (q2 : Int), 0, 0, ev00, false, ⟨0, 0, 0, ⟨none, 0, []⟩⟩, none, 0, []⟩) HS7.out.row int_size1 (show (5 : Nat) ≤ 19 by decide) (fun u hu => by rw [List.mem_singleton.1 hu]; rfl) ?_; generalize World.setRow w7 _ _ = w8 at HS8 ⊢))
    clear HS5 HS6 HS7
    have hc8 : w8.cell? ⟨gx, 0, none⟩ = some (.int .i64 8) := cell_of_row w8 gx 0 _ _ _ HS8.out.row
    go_upto_region 21 with fail
    refine (next_any 8 (by omega) (by omega) _ (by omega) HS8.out.feed).mono ?_
    rintro e w9 ⟨q4, hq4, rfl, hF, hK, -⟩
    have HS9 := Lib.hid (HS8.out.fed hK hF)
    clear hF hK HS8
    have HSx := Lib.hid (HS9.out.set (p := 2) (cs := [.int .i64 (q4 : Int)]) (x' := ⟨8, (q1 : Int), (q4 : Int), 1 + (q2 : Int), 1 + (q3 : Int), 0, ev00, false, ⟨0, 0, 0, ⟨none, 0, []⟩⟩, none, 0, []⟩) rfl (Fro.none HS9.out.kept.size rfl rfl rfl rfl rfl))
    go_upto_region 21 with (first | (refine wpList_store_part rfl 3 _ _ rfl gx 2 _ [.int .i64 (q4 : Int)] rfl rfl rfl 38 (Fr.cells ⟨8, (q1 : Int), 0, 1 + (q2 : Int), 1 + (q3 : Int), 0, ev00, false, ⟨0, 0, 0, ⟨none, 0, []⟩⟩, none, 0, []⟩) HS9.out.row int_size1 (show (3 : Nat) ≤ 19 by decide) (fun u hu => by rw [List.mem_singleton.1 hu]; rfl) ?_; generalize World.setRow w9 _ _ = wx at HSx ⊢))
    clear HS9
    have HC := Lib.hid (cells_row (cs := Fr.cells ⟨8, (q1 : Int), (q4 : Int), 1 + (q2 : Int), 1 + (q3 : Int), 0, ev00, false, ⟨0, 0, 0, ⟨none, 0, []⟩⟩, none, 0, []⟩) HSx.out.row)
    have HEN := Lib.hid HSx.out.ends
    have HRS := Lib.hid HSx.out.res
    go_wp2_with (first | (refine wpList_load_at rfl 38 _ rfl gx 0 (Fr.cells ⟨8, (q1 : Int), (q4 : Int), 1 + (q2 : Int), 1 + (q3 : Int), 0, ev00, false, ⟨0, 0, 0, ⟨none, 0, []⟩⟩, none, 0, []⟩) _ rfl HC.out Tryz.underlying38 rfl fr_size1 ?_; dsimp only [Fr.cells]) | (refine wpList_store_part rfl 38 _ _ rfl w.heap.size 0 _ (Fr.cells ⟨8, (q1 : Int), (q4 : Int), 1 + (q2 : Int), 1 + (q3 : Int), 0, ev00, false, ⟨0, 0, 0, ⟨none, 0, []⟩⟩, none, 0, []⟩) rfl rfl rfl 38 fr00.cells HRS.out fr_size1 (show (19 : Nat) ≤ 19 by decide) (ffr_one _) ?_; generalize World.setRow wx _ _ = wz at HEN ⊢) | fail)
    obtain ⟨g1, g2, g3, g4⟩ := HEN.out
    refine bodyPost_ret (results_cell_row rfl _ _ _ _ _ _ _ rfl g1 Tryz.underlying38 rfl (by kernel_rfl)) rfl ?_
    exact ⟨_, rfl, frd_done hq1 hq2 hq3 hq4, g2, g3.more (by omega), g4⟩
end Go.Proofs.YtgenmebmdpnjhaaGreat
