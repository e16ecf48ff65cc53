
/- The statements' filters: some filters, right ones mostly; where some may be raw ones: what lies in no cell stands in no block. -/
import Derived.Test.YtfbfbajccphkoaaGreatFilterAll
import Derived.Deep.DeepCutAuto
namespace Go.Proofs.YtfbfbajccphkoaaGreat
open Go.RowKit
set_option linter.unusedVariables false

/-- The blocks in which a filter lies. -/
def Ft.in_ (f : Ft) (i : Nat) : Prop := f.v.ownBlock = some i ∨ ∃ x, x ∈ f.l ∧ x.p.set.length ≠ 0 ∧ (Value.slice x.A x.p.set.length x.c).ownBlock = some i
theorem own_at {A : Option Addr} {n c : Nat} {z : Addr} (h : A = some z) : (Value.slice A n c).ownBlock = some z.block := by rw [h]; rfl
theorem IsPt.keep {S : Nat → Prop} {w w' : World} {x : Pt} (h : IsPt w x) (k : Kept S w w') (hs : x.p.set.length ≠ 0 → ∀ a, x.A = some a → ¬ S a.block) : IsPt w' x := by
  by_cases h0 : x.p.set.length = 0
  · have e : x.p.set = [] := List.eq_nil_of_length_eq_zero h0
    refine ⟨⟨h.is.nm, h.is.fv, h.is.fw, ⟨⟨by rw [e]; rfl, .inl (by rw [e]; rfl)⟩, by rw [e]; simp, by omega⟩⟩, h.none_⟩
  · exact h.kept k (hs h0)
theorem IsFt.kept {S : Nat → Prop} {w w' : World} {f : Ft} (h : IsFt w f) (k : Kept S w w') (hs : ∀ i, f.in_ i → ¬ S i) : IsFt w' f :=
  ⟨⟨h.ps.row.kept k (fun z hz => hs _ (.inl (own_at hz))), fun x hx => (h.ps.each x hx).keep k (fun h0 a ha => hs _ (.inr ⟨x, hx, h0, own_at ha⟩)), h.ps.few⟩, h.none_⟩
theorem ownw_cells {k B n : Nat} {e : TypeId} {w : World} {v : Value} {xs : List Value} (h : OwnW k B e w v n xs) : ∀ i, v.ownBlock = some i → ∃ cs, w.heap[i]? = some (.cells cs e (0, 0)) := by
  intro i hi
  rcases h.1.2 with ⟨rfl, -⟩ | ⟨g, cap, cur, rfl, -, hg, -⟩
  · cases hi
  · cases hi; exact ⟨cur, hg⟩
/-- A block that is no row of filters. -/
def NoRow (w : World) (i : Nat) : Prop := ∃ cs t fr, w.heap[i]? = some (.cells cs t fr) ∧ t ≠ 22
theorem NoRow.kept {S : Nat → Prop} {w w' : World} {i : Nat} (h : NoRow w i) (k : Kept S w w') (hs : ¬ S i) : NoRow w' i := by
  obtain ⟨cs, t, fr, hg, ht⟩ := h
  exact ⟨cs, t, fr, k.row hg hs, ht⟩
theorem NoRow.lt {w : World} {i : Nat} (h : NoRow w i) : i < w.heap.size := by
  obtain ⟨cs, t, fr, hg, -⟩ := h
  exact (Array.getElem?_eq_some_iff.1 hg).1
/-- One of the filters, as the loop carries it. -/
structure El (B b M : Nat) (wr : World) (f : Ft) : Prop where
  is : IsFt wr f
  at_ : ∀ i, f.in_ i → i ≠ b ∧ (i < B ∨ NoRow wr i)
  few : f.l.length ≤ 5
  small : ∀ x, x ∈ f.l → x.p.set.length ≤ M
theorem El.kept {S : Nat → Prop} {B b M : Nat} {w w' : World} {f : Ft} (h : El B b M w f) (k : Kept S w w') (hs : ∀ i, f.in_ i → ¬ S i) : El B b M w' f :=
  ⟨h.is.kept k hs, fun i hi => ⟨(h.at_ i hi).1, (h.at_ i hi).2.imp id (fun hn => hn.kept k (hs i hi))⟩, h.few, h.small⟩
theorem El.later {B b M : Nat} {w w' : World} {f : Ft} (h : El B b M w f) (k : Below w.heap.size w w') : El B b M w' f := h.kept (S := fun _ => False) (Kept.ofBelow k) (fun _ _ => id)
theorem El.fed {B b M : Nat} {w w' : World} {f : Ft} (h : El B b M w f) (k : Kept (· = b) w w') : El B b M w' f := h.kept k (fun i hi => (h.at_ i hi).1)
theorem El.lt {B b M : Nat} {w : World} {f : Ft} (h : El B b M w f) (hB : B ≤ w.heap.size) : ∀ i, f.in_ i → i < w.heap.size := fun i hi => by
  rcases (h.at_ i hi).2 with h1 | h1
  · omega
  · exact h1.lt
theorem Owned.el {B b M C : Nat} {w : World} {f : Ft} (h : Owned C w f) (hb : b < C) (hf : ∀ p, p ∈ Fi.tests f → Pd.Fits p) (few : f.l.length ≤ 5) (small : ∀ x, x ∈ f.l → x.p.set.length ≤ M) : El B b M w f := by
  refine ⟨h.is hf, fun i hi => ?_, few, small⟩
  rcases hi with hi | ⟨x, hx, -, hi⟩
  · obtain ⟨cs, hg⟩ := ownw_cells h.row i hi
    exact ⟨ownw_apart h.row hb i hi, .inr ⟨cs, _, _, hg, fil_types.2⟩⟩
  · obtain ⟨cs, hg⟩ := ownw_cells (h.sets x hx) i hi
    exact ⟨ownw_apart (h.sets x hx) hb i hi, .inr ⟨cs, _, _, hg, fil_types.1⟩⟩
/-- The raw filter. -/
structure IsRaw (B M : Nat) (w : World) (R : Ft) : Prop where
  is : IsFt w R
  low : ∀ z, R.A = some z → z.spot = none ∧ z.block < B
  sets : ∀ x, x ∈ R.l → x.p.set.length ≠ 0 → ∀ z, x.A = some z → z.block < B
  room : R.l.length ≤ R.c
  small : ∀ x, x ∈ R.l → x.p.set.length ≤ M
theorem Ps.take {w : World} {A : Option Addr} {n k : Nat} {l : List Pt} (h : Ps w A n l) (hk : k ≤ l.length) : Ps w A k (l.take k) := by
  have hn := h.len
  refine ⟨⟨by rw [flat_len _ Pt.cells_len, List.length_take, Nat.min_eq_left hk], ?_⟩, fun x hx => h.each x (List.mem_of_mem_take hx), by have := h.few; omega⟩
  rcases h.row.2 with h0 | ⟨g, o, rfl, hc⟩
  · left
    have hl : (pflat l).length = 0 := by rw [h0]; rfl
    rw [flat_len _ Pt.cells_len] at hl
    rw [List.eq_nil_of_length_eq_zero (l := l) (by omega)]
    simp
  · refine .inr ⟨g, o, rfl, fun j u hj => hc j u ?_⟩
    unfold pflat at hj ⊢
    rw [← flat_take Pt.cells Pt.cells_len l k, List.getElem?_take] at hj
    split at hj
    · exact hj
    · cases hj
theorem own_block {A : Option Addr} {n c i : Nat} (h : (Value.slice A n c).ownBlock = some i) : ∃ z, A = some z ∧ z.block = i := by
  cases A with
  | none => cases h
  | some z => exact ⟨z, rfl, Option.some.inj h⟩
/-- A beginning of the raw filter. -/
theorem IsRaw.el {B b M m : Nat} {w : World} {R : Ft} (h : IsRaw B M w R) (hB : B ≤ b) (hm : m ≤ R.l.length) (h5 : m ≤ 5) : El B b M w ⟨R.A, R.c, R.l.take m⟩ := by
  have hl : (R.l.take m).length = m := by rw [List.length_take]; omega
  refine ⟨⟨by show Ps w R.A (R.l.take m).length (R.l.take m); rw [hl]; exact h.is.ps.take hm, fun e => by have := h.is.none_ e; show (R.l.take m).length = 0 ∧ _; rw [hl]; exact ⟨by omega, this.2⟩⟩, fun i hi => ?_, by show (R.l.take m).length ≤ 5; omega, fun x hx => h.small x (List.mem_of_mem_take hx)⟩
  have : i < B := by
    rcases hi with hi | ⟨x, hx, hn0, hi⟩
    · obtain ⟨z, hz, e⟩ := own_block hi
      have := (h.low z hz).2
      omega
    · obtain ⟨z, hz, e⟩ := own_block hi
      have := h.sets x (List.mem_of_mem_take hx) hn0 z hz
      omega
  exact ⟨by omega, .inl this⟩
theorem IsRaw.kept {B M b : Nat} {w w' : World} {R : Ft} (h : IsRaw B M w R) (k : Kept (· = b) w w') (hB : B ≤ b) : IsRaw B M w' R := by
  refine ⟨h.is.kept k (fun i hi e => ?_), h.low, h.sets, h.room, h.small⟩
  rcases hi with hi | ⟨x, hx, hn0, hi⟩
  · obtain ⟨z, hz, e'⟩ := own_block hi
    have := (h.low z hz).2
    omega
  · obtain ⟨z, hz, e'⟩ := own_block hi
    have := h.sets x hx hn0 z hz
    omega
/-- The filters so far. -/
structure Fls (B b a M : Nat) (w wr : World) (v : Value) (L : List Ft) (z n : Int) : Prop where
  own : OwnF w.heap.size wr v L
  each : ∀ f, f ∈ L → El B b M wr f
  feed : IsFeed B wr b (a + 1 + 60 * L.length)
  kept : Kept (· = b) w wr
  hb : b < w.heap.size
  hz : z + (L.length : Int) = n
theorem Fls.fed {B b a a' M : Nat} {w wr wx : World} {v : Value} {L : List Ft} {z n : Int} (h : Fls B b a M w wr v L z n) (k : Kept (· = b) wr wx) : OwnF w.heap.size wx v L ∧ (∀ f, f ∈ L → El B b M wx f) ∧ Kept (· = b) w wx :=
  ⟨h.own.kept k (ownw_apart h.own h.hb), fun f hf => (h.each f hf).fed k, h.kept.then k⟩
/-- The loop's round on its way: F is x. -/
structure FSt (B b a M : Nat) (w wx : World) (R : Ft) (A : Option Addr) (c : Nat) (L : List Ft) (F : Ft) : Prop where
  own : OwnF w.heap.size wx (.slice A L.length c) L
  each : ∀ f, f ∈ L → El B b M wx f
  el : El B b M wx F
  feed : IsFeed B wx b a
  kept : Kept (· = b) w wx
  raw : IsRaw B M wx R
  hb : b < w.heap.size
  hB : B ≤ b
theorem FSt.fed {B b a a' M : Nat} {w wx wy : World} {R : Ft} {A : Option Addr} {c : Nat} {L : List Ft} {F : Ft} (h : FSt B b a M w wx R A c L F) (k : Kept (· = b) wx wy) (f : IsFeed B wy b a') : FSt B b a' M w wy R A c L F :=
  ⟨h.own.kept k (ownw_apart h.own h.hb), fun f hf => (h.each f hf).fed k, h.el.fed k, f, h.kept.then k, h.raw.kept k h.hB, h.hb, h.hB⟩
theorem IsRaw.later {B M : Nat} {w w' : World} {R : Ft} (h : IsRaw B M w R) (k : Below w.heap.size w w') : IsRaw B M w' R := ⟨h.is.later k, h.low, h.sets, h.room, h.small⟩
theorem FSt.later {B b a M : Nat} {w wx wy : World} {R : Ft} {A : Option Addr} {c : Nat} {L : List Ft} {F : Ft} (h : FSt B b a M w wx R A c L F) (k : Below wx.heap.size wx wy) : FSt B b a M w wy R A c L F :=
  ⟨h.own.later k, fun f hf => (h.each f hf).later k, h.el.later k, h.feed.below k, h.kept.then (Kept.ofBelow k), h.raw.later k, h.hb, h.hB⟩
theorem FSt.more {B b a a' M : Nat} {w wx : World} {R : Ft} {A : Option Addr} {c : Nat} {L : List Ft} {F : Ft} (h : FSt B b a M w wx R A c L F) (ha : a ≤ a') : FSt B b a' M w wx R A c L F :=
  ⟨h.own, h.each, h.el, h.feed.more ha, h.kept, h.raw, h.hb, h.hB⟩
theorem FSt.with_ {B b a M : Nat} {w wx : World} {R : Ft} {A : Option Addr} {c : Nat} {L : List Ft} {F G : Ft} (h : FSt B b a M w wx R A c L F) (hG : El B b M wx G) : FSt B b a M w wx R A c L G :=
  ⟨h.own, h.each, hG, h.feed, h.kept, h.raw, h.hb, h.hB⟩
theorem FSt.size {B b a M : Nat} {w wx : World} {R : Ft} {A : Option Addr} {c : Nat} {L : List Ft} {F : Ft} (h : FSt B b a M w wx R A c L F) : B ≤ wx.heap.size ∧ b < wx.heap.size := by
  have := h.kept.size; have := h.hb; have := h.hB; omega
theorem FSt.fs {B b a M : Nat} {w wx : World} {R : Ft} {A : Option Addr} {c : Nat} {L : List Ft} {F : Ft} (h : FSt B b a M w wx R A c L F) (hl : L.length ≤ 100) : Fs wx A L.length L := by
  obtain ⟨A', c', e, -, -, hr, -, -, -⟩ := h.own.reads
  cases e
  exact ⟨hr, fun f hf => (h.each f hf).is, by omega⟩
/-- What turns blocks that were not there when M0 was the heap's size. -/
theorem FSt.turn {S : Nat → Prop} {B b a M M0 : Nat} {w wx wy : World} {R : Ft} {A : Option Addr} {c : Nat} {L : List Ft} {F G : Ft} (h : FSt B b a M w wx R A c L F) (k : Kept S wx wy) (hS : ∀ i, S i → M0 ≤ i) (h1 : ∀ i, (Value.slice A L.length c).ownBlock = some i → i < M0) (h2 : ∀ f, f ∈ L → ∀ i, f.in_ i → i < M0) (h3 : w.heap.size ≤ M0) (hG : El B b M wy G) : FSt B b a M w wy R A c L G := by
  have hb := h.hb
  have hB := h.hB
  refine ⟨h.own.kept k (fun i hi e => by have := h1 i hi; have := hS i e; omega), fun f hf => (h.each f hf).kept k (fun i hi e => by have := h2 f hf i hi; have := hS i e; omega), hG, h.feed.kept k (fun e => by have := hS _ e; omega) (fun i hi e => by have := hS i e; omega), h.kept.trans k (fun i hi e => by have := hS i e; omega), ⟨h.raw.is.kept k (fun i hi e => ?_), h.raw.low, h.raw.sets, h.raw.room, h.raw.small⟩, hb, hB⟩
  have := hS i e
  rcases hi with hi | ⟨x, hx, hn0, hi⟩
  · obtain ⟨z, hz, e'⟩ := own_block hi
    have := (h.raw.low z hz).2
    omega
  · obtain ⟨z, hz, e'⟩ := own_block hi
    have := h.raw.sets x hx hn0 z hz
    omega
theorem part_set {l : List Pt} {j : Nat} {x : Pt} {tail : List Value} (hj : j < l.length) : part (pflat l ++ tail) (j * 13) x.cells = pflat (l.set j x) ++ tail := by
  obtain ⟨y, hy⟩ : ∃ y, l[j]? = some y := ⟨_, List.getElem?_eq_getElem hj⟩
  have e1 : l = l.take j ++ y :: l.drop (j + 1) := by rw [← drop_at hy, List.take_append_drop]
  have e2 : l.set j x = l.take j ++ x :: l.drop (j + 1) := by rw [List.set_eq_take_append_cons_drop, if_pos hj]
  have hP : (pflat (l.take j)).length = j * 13 := by rw [flat_len _ Pt.cells_len, List.length_take, Nat.min_eq_left (by omega)]
  have e3 : pflat l ++ tail = pflat (l.take j) ++ (y.cells ++ (pflat (l.drop (j + 1)) ++ tail)) := by
    conv => lhs; rw [e1]
    simp [pflat]
  rw [e3, e2]
  unfold part
  rw [← hP, List.take_left, ← List.drop_drop, List.drop_left, List.drop_left' (by rw [Pt.cells_len', Pt.cells_len'])]
  simp [pflat]
/-- One of its tests is turned. -/
theorem owned_set {C : Nat} {w : World} {G : Ft} {x : Pt} {j : Nat} (h : Owned C w G) (hj : j < G.l.length) (hx : OwnS C w x) : ∃ (g : Nat) (cur : List Value), G.A = some ⟨g, 0, none⟩ ∧ C ≤ g ∧ w.heap[g]? = some (.cells cur.toArray 48 (0, 0)) ∧ j * 13 + 13 ≤ cur.length ∧ G.l.length ≤ G.c ∧ Owned C (w.setRow g (part cur (j * 13) x.cells).toArray) ⟨G.A, G.c, G.l.set j x⟩ := by
  obtain ⟨A, c, l⟩ := G
  rcases h.row.1.2 with ⟨e, h0⟩ | ⟨g, cap, cur, e, hb, hg, hc, hm, hsz, htk⟩
  · have h00 : l.length = 0 := h0
    have : j < l.length := hj
    omega
  · unfold Ft.v at e
    cases e
    dsimp only at hj hc hsz htk hg ⊢
    have hlist : cur.toList = pflat l ++ cur.toList.drop (l.length * 13) := by rw [← htk, List.take_append_drop]
    have hg' : w.heap[g]? = some (.cells cur.toList.toArray 48 (0, 0)) := by rw [hg]
    have hlen : cur.toList.length = c * 13 := by rw [Array.length_toList, hsz]
    refine ⟨g, cur.toList, rfl, hb, hg', by rw [hlen]; omega, hc, ?_⟩
    have k := Kept.setRow w g (part cur.toList (j * 13) x.cells).toArray
    have hset := setRow_heap w g _ (part cur.toList (j * 13) x.cells).toArray _ _ hg'
    have he : part cur.toList (j * 13) x.cells = pflat (l.set j x) ++ cur.toList.drop (l.length * 13) := by
      conv => lhs; rw [hlist]
      exact part_set hj
    rw [he] at hset k ⊢
    have hp : (pflat (l.set j x)).length = l.length * 13 := by rw [flat_len _ Pt.cells_len, List.length_set]
    refine ⟨⟨⟨?_, .inr ⟨g, c, _, ?_, hb, hset, ?_, hm, ?_, ?_⟩⟩, ?_⟩, fun y hy => ?_⟩
    · exact flat_len _ Pt.cells_len _
    · show Value.slice _ (l.set j x).length c = _
      rw [List.length_set]
    · show (l.set j x).length ≤ c
      rw [List.length_set]; exact hc
    · rw [List.size_toArray, List.length_append, hp, List.length_drop, hlen]; omega
    · show List.take ((l.set j x).length * 13) (pflat (l.set j x) ++ _) = _
      rw [List.length_set, ← hp, List.take_left]
    · have := (Array.getElem?_eq_some_iff.1 hset).1; omega
    · have hy' : OwnS C w y := by
        rcases List.mem_or_eq_of_mem_set hy with h1 | rfl
        · exact h.sets y h1
        · exact hx
      exact hy'.kept k (ownw_not hy' hg' val_pred)
theorem FSt.add {B b a a' M : Nat} {w wx w' : World} {R : Ft} {A : Option Addr} {c : Nat} {L : List Ft} {F : Ft} {v' : Value} {z n : Int} (h : FSt B b a' M w wx R A c L F) (hz : z + (L.length : Int) = n) (ha : a' ≤ a + 61 + 60 * L.length)
    (hO : OwnW 1 w.heap.size 22 w' v' (L.length + 1) (fflat L ++ fflat [F])) (hK : Kept (fun i => (Value.slice A L.length c).ownBlock = some i) (wx.alloc (.cells #[.slice F.A F.l.length F.c] 22)) w') : Fls B b a M w w' v' (L ++ [F]) (z - 1) n ∧ IsRaw B M w' R := by
  have hn := one_new wx (.cells #[.slice F.A F.l.length F.c] 22)
  have h1 := h.later hn
  have hb := h.hb
  have hB := h.hB
  have base : ∀ i, (Value.slice A L.length c).ownBlock = some i → w.heap.size ≤ i := fun i hi => ownw_base h1.own i hi
  have apart : ∀ f : Ft, El B b M (wx.alloc (.cells #[.slice F.A F.l.length F.c] 22)) f → El B b M w' f := fun f hf => hf.kept hK (fun i hi e => by
    have := base i e
    rcases (hf.at_ i hi).2 with h2 | ⟨cs, t, fr, h2, h3⟩
    · omega
    · obtain ⟨cs', h4⟩ := ownw_cells h1.own i e
      rw [h4] at h2
      cases h2
      exact h3 rfl)
  have el : (L ++ [F]).length = L.length + 1 := by simp
  refine ⟨⟨ownf_add hO, fun f hf => ?_, ?_, h1.kept.trans hK (fun i hi e => by have := base i e; omega), hb, by rw [el]; omega⟩, ⟨h1.raw.is.kept hK (fun i hi e => ?_), h1.raw.low, h1.raw.sets, h1.raw.room, h1.raw.small⟩⟩
  · rcases List.mem_append.1 hf with hf | hf
    · exact apart f (h1.each f hf)
    · rw [List.mem_singleton.1 hf]; exact apart F h1.el
  · rw [el]
    exact (h1.feed.kept hK (fun e => by have := base _ e; omega) (fun i hi e => by have := base i e; omega)).more (by omega)
  · have := base i e
    rcases hi with hi | ⟨x, hx, hn0, hi⟩
    · obtain ⟨z, hz, e'⟩ := own_block hi
      have := (h1.raw.low z hz).2
      omega
    · obtain ⟨z, hz, e'⟩ := own_block hi
      have := h1.raw.sets x hx hn0 z hz
      omega
/-- What filters tells. -/
def FiltersPost (B b a M : Nat) (n : Int) (w : World) (e : Ending) (w' : World) : Prop :=
  ∃ (A : Option Addr) (c : Nat) (L : List Ft), e = .returned (.slice A L.length c) ∧ (L.length : Int) ≤ n ∧ OwnF w.heap.size w' (.slice A L.length c) L ∧ (∀ f, f ∈ L → El B b M w' f) ∧ IsFeed B w' b (a + 1 + 60 * L.length) ∧ Kept (· = b) w w'

set_option maxRecDepth 100000 in
set_option maxHeartbeats 16000000 in
theorem filters_any {B b a M : Nat} (n : Int) (hn : 0 ≤ n) (hn2 : n ≤ 100) (hM : 4 ≤ M) (hM2 : M ≤ 2932031007317) (w : World) (ha : a < 4611686018427300000) (hf : IsFeed B w b a) {R : Ft} (hR : IsRaw B M w R) :
    Calls Tryz.prog 5 #[.pointer (some ⟨b, 0, none⟩), .slice R.A R.l.length R.c, .int .i64 n] w (FiltersPost B b a M n w) := by
  have hlt := hf.lt
  have hBb := hf.1
  have HF := Lib.hid hf
  have HR := Lib.hid hR
  have hst := store_float
  clear hf hR
  have un : IntKind.i64.wrap (n + 1) = n + 1 := IntWalk.i64_in _ (by omega)
  go_enter Tryz.func5, Tryz.ntmps5
  go_wp2_with fail
  refine (next_any (a := a) (n + 1) (by omega) (by omega) _ (by omega) HF.out).mono ?_
  rintro e w1 ⟨k, hk, rfl, hF1, hK1, hs1⟩
  have H0 : Hid (Fls B b a M w w1 (.slice none 0 0) [] (k : Int) (k : Int)) := ⟨OwnW.nil _ _ _ hK1.size, by simp, hF1, hK1, hlt, by simp⟩
  have HR1 := Lib.hid (HR.out.kept hK1 hBb)
  clear hF1 hK1 hs1 HF HR un
  go_wp2_with fail
  go_loopw [7, 8] (fun v ii wr => ∃ (z : Int) (L : List Ft), ii = .int .i64 z ∧ 0 ≤ z ∧ Fls B b a M w wr v L z (k : Int) ∧ IsRaw B M wr R) (fun _ ii _ => (intOf ii).toNat)
  case atStart => exact ⟨k, [], rfl, by omega, H0.out, HR1.out⟩
  case round =>
    obtain ⟨z, L, rfl, hz, hS, hR⟩ := hrel
    clear H0 HR1
    have HS := Lib.hid hS
    have HR := Lib.hid hR
    have hzL := hS.hz
    have HZL : Hid (z + (L.length : Int) = (k : Int)) := hzL
    have hL100 : L.length ≤ 100 := by omega
    obtain ⟨A, c, hv, hcL, -, -, -, -, -⟩ := hS.own.reads
    clear hS hR hzL
    subst hv
    by_cases h0 : z > 0
    · go_wp2_with fail
      refine (feedfilter_any (a := a + 1 + 60 * L.length) _ (by omega) HS.out.feed).mono ?_
      rintro e w2 ⟨F, rfl, hfine, hown, hF, hK⟩
      obtain ⟨n1, n2, n3⟩ := HS.out.fed (a' := 0) hK
      have hC : b < wr.heap.size := by have := HS.out.kept.size; omega
      have HE2 : Hid (El B b M w2 F) := hown.el hC hfine.fits (by have := hfine.few; omega) (fun x hx => by have := (hfine.fed x hx).2.few; omega)
      have HO2 := Lib.hid n1
      have HL2 := Lib.hid n2
      have HK2 := Lib.hid n3
      have HF2 := Lib.hid hF
      have HR2 := Lib.hid (HR.out.kept hK hBb)
      clear hfine hown hF hK n1 n2 n3 HS HR hC
      have HT : Hid (FSt B b (a + 1 + 60 * L.length + 34) M w w2 R A c L F) := ⟨HO2.out, HL2.out, HE2.out, HF2.out, HK2.out, HR2.out, hlt, hBb⟩
      clear HO2 HL2 HE2 HF2 HK2 HR2
      go_upto_region 6 with fail
      go_cut [28] (fun vv wx => ∃ bb : Bool, vv = .bool bb ∧ (bb = true → 0 < L.length) ∧ FSt B b (a + 1 + 60 * L.length + 35) M w wx R A c L F)
      case first =>
        by_cases hL : (L.length : Int) > 0
        · go_wp2_with fail
          refine (next_any (a := a + 1 + 60 * L.length + 34) 4 (by omega) (by omega) _ (by omega) HT.out.feed).mono ?_
          rintro e w3 ⟨k4, hk4, rfl, hF1, hK1, hs1⟩
          have HT3 := Lib.hid (HT.out.fed hK1 hF1)
          clear hF1 hK1 hs1 HT
          go_wp2_with fail
          go_meet
          exact ⟨_, rfl, fun _ => by omega, HT3.out⟩
        · go_wp2_with fail
          go_meet
          exact ⟨false, rfl, (fun h => by cases h), HT.out.more (by omega)⟩
      case rest =>
      obtain ⟨bb, rfl, hbb, hT⟩ := hcut
      clear HT
      have HT := Lib.hid hT
      have HBB := Lib.hid hbb
      clear hT hbb
      generalize wc = w3 at HT ⊢
      go_upto_if 28 with fail
      go_cut [9] (fun vv wx => ∃ F' : Ft, vv = .slice F'.A F'.l.length F'.c ∧ FSt B b (a + 1 + 60 * L.length + 55) M w wx R A c L F')
      case first =>
        cases bb
        · go_wp2_with fail
          go_meet
          exact ⟨F, rfl, HT.out.more (by omega)⟩
        · have hL0 := HBB.out rfl
          go_wp2_with fail
          refine (next_any (a := a + 1 + 60 * L.length + 35) L.length (by omega) (by omega) _ (by omega) HT.out.feed).mono ?_
          rintro e w4 ⟨q, hq, rfl, hF1, hK1, hs1⟩
          have HT4 := Lib.hid (HT.out.fed hK1 hF1)
          clear hF1 hK1 hs1 HT
          obtain ⟨g, o, f, rfl, hf, -, hc⟩ := (HT4.out.fs hL100).cells (Below.refl _ _) (show q < L.length by omega)
          have HFe := Lib.hid (HT4.out.each f (List.mem_of_getElem? hf))
          clear hf
          go_wp2_with fail
          refine (hfilter_any HFe.out.is.ps (by have := HFe.out.few; omega) (fun x hx => by have := HFe.out.small x hx; omega)).mono ?_
          rintro e w5 hpost
          obtain ⟨G, rfl, hGt, hGo, hb⟩ := hpost.own
          have HT5 := Lib.hid (HT4.out.later hb)
          have hM0 := HT4.out.size
          have HLo := Lib.hid (ownw_lt HT4.out.own)
          have HLi : Hid (∀ f, f ∈ L → ∀ i, f.in_ i → i < w4.heap.size) := fun f hf => (HT4.out.each f hf).lt hM0.1
          have hwM : w.heap.size ≤ w4.heap.size := HT4.out.kept.size
          have HG := Lib.hid hGo
          have hGl : G.l.length = f.l.length := by have := congrArg List.length hGt; simpa [Fi.tests] using this
          have hG5 : G.l.length ≤ 5 := by rw [hGl]; exact HFe.out.few
          have hGf : ∀ p, p ∈ Fi.tests G → Pd.Fits p := by
            rw [hGt]
            intro p hp
            obtain ⟨x, hx, rfl⟩ := List.mem_map.1 hp
            exact (HFe.out.is.ps.each x hx).is.fits
          have hGs : ∀ x, x ∈ G.l → x.p.set.length ≤ M := by
            intro x hx
            have : x.p ∈ Fi.tests G := List.mem_map_of_mem hx
            rw [hGt] at this
            obtain ⟨y, hy, e⟩ := List.mem_map.1 this
            rw [← e]
            exact HFe.out.small y hy
          have HGF := Lib.hid hGf
          have HGS := Lib.hid hGs
          have hbM : b < w4.heap.size := hM0.2
          clear hpost hGt hGo hb hGl hGf hGs HT4 hc HFe
          dsimp only [Ft.v]
          generalize w4.heap.size = M0 at HG HLo HLi hM0 hwM hbM
          have HTG := Lib.hid (HT5.out.with_ (HG.out.el hbM HGF.out hG5 HGS.out))
          clear HT5
          by_cases hG0 : (G.l.length : Int) > 0
          · go_wp2_with fail
            refine (next_any (a := a + 1 + 60 * L.length + 36) 2 (by omega) (by omega) _ (by omega) HTG.out.feed).mono ?_
            rintro e w6 ⟨d, hd, rfl, hF1, hK1, hs1⟩
            have HT6 := Lib.hid (HTG.out.fed hK1 hF1)
            have HG6 := Lib.hid (HG.out.fed hK1 hbM)
            clear hF1 hK1 hs1 HTG HG
            by_cases hd0 : (d : Int) = 0
            · go_wp2_with fail
              refine (next_any (a := a + 1 + 60 * L.length + 37) G.l.length (by omega) (by omega) _ (by omega) HT6.out.feed).mono ?_
              rintro e w7 ⟨j, hj, rfl, hF1, hK1, hs1⟩
              have HT7 := Lib.hid (HT6.out.fed hK1 hF1)
              have HG7 := Lib.hid (HG6.out.fed hK1 hbM)
              clear hF1 hK1 hs1 HT6 HG6
              go_wp2_with fail
              refine (feedpred_any (a := a + 1 + 60 * L.length + 38) ⟨#[97]⟩ _ (by omega) HT7.out.feed).mono ?_
              rintro e w8 ⟨p, Ap, cp, rfl, hfp, hOp, hF, hK⟩
              have HT8 := Lib.hid (HT7.out.fed hK hF)
              have HG8 := Lib.hid (HG7.out.fed hK hbM)
              have HP8 : Hid (OwnS M0 w8 ⟨p, Ap, cp⟩) := ownw_sub hOp HG7.out.row.2
              have HFP : Hid (Pd.Fits p) := hfp.fits' (by decide)
              have HFW : Hid (p.set.length ≤ M) := (by have := hfp.few; omega : p.set.length ≤ M)
              clear hF hK hOp hfp HT7 HG7
              have hjl : j < G.l.length := by omega
              obtain ⟨g8, cur, eA, hg8, hrow, hle, hGc, hO⟩ := owned_set HG8.out hjl HP8.out
              have HRow := Lib.hid hrow
              have HO := Lib.hid hO
              have HKS := Lib.hid (Kept.setRow w8 g8 (part cur (j * 13) (Pt.cells ⟨p, Ap, cp⟩)).toArray)
              clear hrow hO HG8 HP8
              obtain ⟨GA, Gc, Gl⟩ := G
              dsimp only at eA hjl hG0 hG5 hj hGc HO HGF HGS ⊢
              subst eA
              have HEND : Hid (FSt B b (a + 1 + 60 * L.length + 48) M w (w8.setRow g8 (part cur (j * 13) (Pt.cells ⟨p, Ap, cp⟩)).toArray) R (some ⟨g, o, none⟩) c L ⟨some ⟨g8, 0, none⟩, Gc, Gl.set j ⟨p, Ap, cp⟩⟩) := HT8.out.turn (M0 := M0) HKS.out (by rintro i rfl; exact hg8) HLo.out HLi.out hwM (HO.out.el hbM (by
                intro q hq
                obtain ⟨x, hx, rfl⟩ := List.mem_map.1 hq
                rcases List.mem_or_eq_of_mem_set hx with h1 | rfl
                · exact HGF.out _ (List.mem_map_of_mem h1)
                · exact HFP.out) (by show (Gl.set j _).length ≤ 5; rw [List.length_set]; exact hG5) (by
                intro x hx
                rcases List.mem_or_eq_of_mem_set hx with h1 | rfl
                · exact HGS.out x h1
                · exact HFW.out))
              clear HO HKS HGF HGS HT8 HFP HFW
              go_wp2_with (first | (refine wpList_store_part rfl 48 _ _ rfl g8 (j * 13) _ (Pt.cells ⟨p, Ap, cp⟩) rfl rfl rfl 48 _ HRow.out prd_size hle (Pt.one _) ?_; generalize World.setRow w8 _ _ = w9 at HEND ⊢) | fail)
              go_meet
              exact ⟨⟨_, Gc, Gl.set j ⟨p, Ap, cp⟩⟩, by rw [List.length_set], HEND.out.more (by omega)⟩
            · go_wp2_with fail
              go_meet
              exact ⟨G, rfl, HT6.out.more (by omega)⟩
          · go_wp2_with fail
            go_meet
            exact ⟨G, rfl, HTG.out.more (by omega)⟩
      case rest =>
      obtain ⟨F', rfl, hT⟩ := hcut
      clear HT
      have HT := Lib.hid hT
      clear hT
      generalize wc = w4 at HT ⊢
      go_wp2_with fail
      refine (next_any (a := a + 1 + 60 * L.length + 55) 12 (by omega) (by omega) _ (by omega) HT.out.feed).mono ?_
      rintro e w5 ⟨d, hd, rfl, hF1, hK1, hs1⟩
      have HT5 := Lib.hid (HT.out.fed hK1 hF1)
      clear hF1 hK1 hs1 HT
      go_upto_if 56 with fail
      go_cut [9] (fun vv wx => ∃ F2 : Ft, vv = .slice F2.A F2.l.length F2.c ∧ FSt B b (a + 1 + 60 * L.length + 56) M w wx R A c L F2)
      case first =>
        by_cases hd0 : (d : Int) = 0
        · have HX : Hid (∀ m, m ≤ R.l.length → m ≤ 5 → ∃ F2 : Ft, Value.slice R.A m R.c = .slice F2.A F2.l.length F2.c ∧ FSt B b (a + 1 + 60 * L.length + 56) M w w5 R A c L F2) := fun m h1 h2 => ⟨⟨R.A, R.c, R.l.take m⟩, by show Value.slice R.A m R.c = Value.slice R.A (R.l.take m).length R.c; rw [List.length_take, Nat.min_eq_left h1], HT5.out.with_ (HT5.out.raw.el HT5.out.hB h1 h2)⟩
          have hroom := HT5.out.raw.room
          have HLW := Lib.hid HT5.out.raw.low
          have HN := Lib.hid HT5.out.raw.is.none_
          have hfew := HT5.out.raw.is.ps.few
          clear HT5
          obtain ⟨RA, Rc, Rl⟩ := R
          dsimp only at HX HLW HN hroom hfew ⊢
          rcases RA with - | ⟨gr, orr, sp⟩
          · obtain ⟨h1, rfl⟩ := HN.out rfl
            obtain rfl : Rl = [] := List.eq_nil_of_length_eq_zero h1
            go_wp2_with fail
            go_meet
            exact HX.out 0 (by simp) (by omega)
          · obtain rfl : sp = none := (HLW.out _ rfl).1
            by_cases hm : (Rl.length : Int) ≤ 5
            · go_wp2_with fail
              go_meet
              exact HX.out Rl.length (by omega) (by omega)
            · have h5 : 5 ≤ Rc := by omega
              go_wp2_with fail
              go_meet
              exact HX.out 5 (by omega) (by omega)
        · go_wp2_with fail
          go_meet
          exact ⟨F', rfl, HT5.out⟩
      case rest =>
      obtain ⟨F2, rfl, hT⟩ := hcut
      clear HT5
      have HT := Lib.hid hT
      clear hT
      generalize wc = w6 at HT ⊢
      have uz : IntKind.i64.wrap (z - 1) = z - 1 := IntWalk.i64_in _ (by have := HZL.out; omega)
      go_wp2_with (first | (at_builtin; refine wpList_ownw (k := 1) rfl _ _ 28 rfl Tryz.underlying28 fil_info rfl (by decide) w.heap.size _ L.length (fflat L) rfl (HT.out.own.later (one_new _ _)) _ 1 1 rfl (fun h => by cases h) (fflat [F2]) (new_ft w6 F2) (fflat_one _) (by omega) (by decide) ?_; intro v7 w7 hO7 hK7; have HEND := Lib.hid (HT.out.add (a := a) HZL.out (by omega) hO7 hK7); clear hO7 hK7))
      have HZ := HZL.out
      exact ⟨⟨z - 1, L ++ [F2], rfl, by omega, HEND.out.1, HEND.out.2⟩, by simp [intOf]; omega⟩
    · go_wp2_with fail
      go_ret
      exact ⟨A, c, L, rfl, by have := HZL.out; omega, HS.out.own, HS.out.each, HS.out.feed, HS.out.kept⟩
end Go.Proofs.YtfbfbajccphkoaaGreat
