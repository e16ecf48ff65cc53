
/- Rows of tests: how they read, those that the call itself made; the contract of the hand's Filter: a copy, Sets too. -/
import Derived.Test.YtgenmebmdpnjhaaPrdBox
import Derived.Test.YtgenmebmdpnjhaaBlk
namespace Go.Proofs.Ytgenmebmdpnjhaa
open Go.RowKit
set_option linter.unusedVariables false

/-- A test and where its Set lies. -/
structure Pt where
  p : Prd
  A : Option Addr
  c : Nat
def Pt.cells (x : Pt) : List Value := [.string x.p.name, .int .i64 x.p.t, .int .i64 x.p.v.k, .int .i64 x.p.v.n, .float .f64 x.p.v.x, .string x.p.v.s, .bool x.p.v.b, .int .i64 x.p.w.k, .int .i64 x.p.w.n, .float .f64 x.p.w.x, .string x.p.w.s, .bool x.p.w.b, .slice x.A x.p.set.length x.c]
theorem Pt.cells_len (x : Pt) : x.cells.length = 13 := rfl
abbrev Pt.box (x : Pt) : Obj := .cells x.cells.toArray 109
abbrev Pt.v (x : Pt) : Value := .agg x.cells.toArray
abbrev pflat (l : List Pt) : List Value := l.flatMap Pt.cells
theorem Pt.one (x : Pt) : ∀ u ∈ x.cells, u.oneCell' = true := by
  intro u hu
  simp only [Pt.cells, List.mem_cons, List.not_mem_nil, or_false] at hu
  rcases hu with rfl | rfl | rfl | rfl | rfl | rfl | rfl | rfl | rfl | rfl | rfl | rfl | rfl <;> rfl
theorem Val.one5 (a : Val) : ∀ u ∈ a.cells, u.oneCell' = true := by
  intro u hu
  simp only [Val.cells, List.mem_cons, List.not_mem_nil, or_false] at hu
  rcases hu with rfl | rfl | rfl | rfl | rfl <;> rfl
theorem pflat_one (l : List Pt) : ∀ u ∈ pflat l, u.oneCell' = true := by
  intro u hu
  obtain ⟨a, -, ha⟩ := List.mem_flatMap.1 hu
  exact a.one u ha
theorem prd_info : (Try.prog.info? 109).map (fun i => (i.zero, i.size, i.bytes)) = some (some (pv ⟨⟨#[]⟩, 0, ⟨0, 0, 0, ⟨#[]⟩, false⟩, ⟨0, 0, 0, ⟨#[]⟩, false⟩, []⟩ none 0 0), 13, 144) := by kernel_rfl
theorem prd_size : (Try.prog.info? 109).map (·.size) = some 13 := by kernel_rfl
theorem val_size : (Try.prog.info? 41).map (·.size) = some 5 := by kernel_rfl
theorem set_size : (Try.prog.info? 107).map (·.size) = some 1 := by kernel_rfl
/-- What is right of a test as memory holds it. -/
structure IsPt (w : World) (x : Pt) : Prop where
  is : IsPrd w x.p x.A x.p.set.length
  none_ : x.A = none → x.p.set.length = 0 ∧ x.c = 0
theorem IsPt.kept {S : Nat → Prop} {w w' : World} {x : Pt} (h : IsPt w x) (k : Kept S w w') (hs : ∀ a, x.A = some a → ¬ S a.block) : IsPt w' x := ⟨h.is.kept k hs, h.none_⟩
theorem IsPt.later {w w' : World} {x : Pt} (h : IsPt w x) (k : Below w.heap.size w w') : IsPt w' x := ⟨h.is.later k, h.none_⟩
/-- A slice reads as a row of tests. -/
structure Ps (w : World) (A : Option Addr) (n : Nat) (l : List Pt) : Prop where
  row : Rs 13 w A n (pflat l)
  each : ∀ x, x ∈ l → IsPt w x
  few : n ≤ 9223372036854775807
theorem Ps.len {w : World} {A : Option Addr} {n : Nat} {l : List Pt} (h : Ps w A n l) : l.length = n := by
  have := h.row.1
  rw [flat_len _ Pt.cells_len] at this
  omega
theorem Ps.later {w w' : World} {A : Option Addr} {n : Nat} {l : List Pt} (h : Ps w A n l) (k : Below w.heap.size w w') : Ps w' A n l := ⟨h.row.later k, fun x hx => (h.each x hx).later k, h.few⟩
theorem Ps.kept {S : Nat → Prop} {w w' : World} {A : Option Addr} {n : Nat} {l : List Pt} (h : Ps w A n l) (k : Kept S w w') (hs : ∀ x, A = some x → ¬ S x.block) (hs' : ∀ x, x ∈ l → ∀ a, x.A = some a → ¬ S a.block) : Ps w' A n l :=
  ⟨h.row.kept k hs, fun x hx => (h.each x hx).kept k (hs' x hx), h.few⟩
theorem Ps.at {w : World} {A : Option Addr} {n : Nat} {l : List Pt} (h : Ps w A n l) (h0 : 0 < l.length) : ∃ g o, A = some ⟨g, o, none⟩ ∧ ∀ i x, l[i]? = some x → ∀ j u, x.cells[j]? = some u → w.cell? ⟨g, o + i * 13 + j, none⟩ = some u := by
  have hp : 0 < (pflat l).length := by rw [flat_len _ Pt.cells_len]; omega
  rcases h.row.2 with h1 | ⟨g, o, rfl, hc⟩
  · rw [h1] at hp; simp at hp
  · refine ⟨g, o, rfl, fun i x hi j u hu => ?_⟩
    have hlt : j < 13 := (List.getElem?_eq_some_iff.1 hu).1
    have := hc (i * 13 + j) u (by rw [flat_get _ Pt.cells_len l i j x hi hlt]; exact hu)
    rw [← Nat.add_assoc] at this
    exact this
/-- A row of tests that the call made. -/
abbrev OwnP (B : Nat) (w : World) (v : Value) (l : List Pt) : Prop := OwnW 13 B 109 w v l.length (pflat l)
theorem ownp_add {B : Nat} {w : World} {v : Value} {l m : List Pt} {n : Nat} (h : OwnW 13 B 109 w v (l.length + n) (pflat l ++ pflat m)) (hn : m.length = n := by rfl) : OwnP B w v (l ++ m) := by
  unfold OwnP
  rw [List.length_append, hn, pflat, List.flatMap_append]
  exact h
theorem ownp_at {B : Nat} {w : World} {v : Value} {l : List Pt} (h : OwnP B w v l) (hl : 0 < l.length) : ∃ g c, v = .slice (some ⟨g, 0, none⟩) l.length c ∧ B ≤ g ∧ g < w.heap.size ∧ l.length ≤ c ∧ c ≤ maxLen ∧ ∀ j u, (pflat l)[j]? = some u → w.cell? ⟨g, 0 + j, none⟩ = some u := by
  rcases h.1.2 with ⟨rfl, h0⟩ | ⟨g, cap, cur, rfl, hb, hg, hc, hm, -, -⟩
  · have := h.1.1
    rw [h0] at this
    simp at this
    omega
  · refine ⟨g, cap, rfl, hb, (Array.getElem?_eq_some_iff.1 hg).1, hc, hm, fun j u hj => ?_⟩
    obtain ⟨A, c, e, -, -, hr, -, -, -⟩ := h.reads
    cases e
    rcases hr.2 with h0 | ⟨g', o', e', hc'⟩
    · have := h.1.1
      rw [h0] at this
      simp at this
      omega
    · cases e'
      exact hc' j u hj
theorem new_pt (w : World) (x : Pt) : Rs 13 (w.alloc x.box) (some ⟨w.heap.size, 0, none⟩) 1 (pflat [x]) := by
  refine ⟨rfl, .inr ⟨w.heap.size, 0, rfl, fun j u hj => ?_⟩⟩
  rw [World.cell?_alloc_new, Nat.zero_add]
  simpa [pflat] using hj
theorem val_pred : (41 : TypeId) ≠ 109 := by decide
/-- The Set of a test, in memory that the call made. -/
abbrev OwnS (B : Nat) (w : World) (x : Pt) : Prop := OwnV B w (.slice x.A x.p.set.length x.c) x.p.set
theorem OwnS.none_ {B : Nat} {w : World} {x : Pt} (h : OwnS B w x) : x.A = none → x.p.set.length = 0 ∧ x.c = 0 := by
  obtain ⟨A, c, e, -, -, -, -, -, h0⟩ := h.reads
  cases e
  exact h0
/-- A fine test: what a machine's one is within. -/
structure Pd.Fits (p : Prd) : Prop where
  nm : p.name.size ≤ 9223372036854775807
  v : Fit p.v
  w : Fit p.w
  set : ∀ a, a ∈ p.set → Fit a
theorem IsPrd.fits {w : World} {p : Prd} {A : Option Addr} {n : Nat} (h : IsPrd w p A n) : Pd.Fits p := ⟨h.nm, h.fv, h.fw, h.set.fit⟩
theorem OwnS.is {B : Nat} {w : World} {x : Pt} (h : OwnS B w x) (hf : Pd.Fits x.p) : IsPt w x := ⟨⟨hf.nm, hf.v, hf.w, OwnW.vs h hf.set⟩, h.none_⟩
/-- A copy as far as it has come. -/
structure Cop (w wr : World) (v : Value) (m : List Pt) (ps : List Prd) : Prop where
  map : m.map (·.p) = ps
  own : OwnP w.heap.size wr v m
  sets : ∀ x, x ∈ m → OwnS w.heap.size wr x
  below : Below w.heap.size w wr
theorem Cop.later {w wr wx : World} {v : Value} {m : List Pt} {ps : List Prd} (h : Cop w wr v m ps) (k : Below wr.heap.size wr wx) : Cop w wx v m ps :=
  ⟨h.map, h.own.later k, fun x hx => (h.sets x hx).later k, below_then h.below k⟩
theorem Cop.turn {w wr wx : World} {v : Value} {m : List Pt} {ps : List Prd} {g : Nat} {cs : Array Value} {fr : Nat × Nat} (h : Cop w wr v m ps) (k : Kept (· = g) wr wx) (hg : wr.heap[g]? = some (.cells cs 109 fr)) (hw : w.heap.size ≤ g) (ho : ∀ i, v.ownBlock = some i → i < g) : Cop w wx v m ps :=
  ⟨h.map, h.own.kept k (fun i hi e => by have := ho i hi; omega), fun x hx => (h.sets x hx).kept k (ownw_not (h.sets x hx) hg val_pred), h.below.trans (k.below h.below.size (by intro i hi e; omega))⟩
/-- How the hand's Filter ends. -/
def FilterPost (ps : List Prd) (w : World) (e : Ending) (w' : World) : Prop := ∃ (v : Value) (m : List Pt), e = .returned v ∧ Cop w w' v m ps
theorem cop_round {w w5 w6 : World} {v v6 : Value} {m : List Pt} {ps : List Prd} {x : Pt} (h : Cop w w5 v m ps) (hs : OwnS w.heap.size w5 x) (hO : OwnW 13 w.heap.size 109 w6 v6 (m.length + 1) (pflat m ++ pflat [x])) (hK : Kept (fun i => v.ownBlock = some i) w5 w6) : Cop w w6 v6 (m ++ [x]) (ps ++ [x.p]) := by
  refine ⟨by rw [List.map_append, h.map]; rfl, ownp_add hO, ?_, h.below.trans (hK.below h.below.size (fun k hk e => by have := ownw_base h.own k e; omega))⟩
  intro y hy
  have hy' : OwnS w.heap.size w5 y := by
    rcases List.mem_append.1 hy with hy | hy
    · exact h.sets y hy
    · rw [List.mem_singleton.1 hy]; exact hs
  exact hy'.kept hK (fun i hi e => ownw_types hy' h.own val_pred i hi e)

end Go.Proofs.Ytgenmebmdpnjhaa
