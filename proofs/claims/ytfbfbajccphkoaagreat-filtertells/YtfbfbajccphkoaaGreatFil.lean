
/- Rows of tests: how they read, those that the call itself made; the contract of the hand's Filter: a copy, Sets too. -/
import Derived.Test.YtfbfbajccphkoaaGreatPrdBox
import Derived.Test.YtfbfbajccphkoaaGreatBlk
namespace Go.Proofs.YtfbfbajccphkoaaGreat
open Go.RowKit
set_option linter.unusedVariables false

/-- A test and where its Set lies. -/
structure Pt where
  p : Prd
  A : Option Addr
  c : Nat
def Pt.cells (x : Pt) : List Value := [.string x.p.name, .int .i64 x.p.t, .int .i64 x.p.v.k, .int .i64 x.p.v.n, .float .f64 x.p.v.x, .string x.p.v.s, .bool x.p.v.b, .int .i64 x.p.w.k, .int .i64 x.p.w.n, .float .f64 x.p.w.x, .string x.p.w.s, .bool x.p.w.b, .slice x.A x.p.set.length x.c]
theorem Pt.cells_len (x : Pt) : x.cells.length = 13 := rfl
abbrev Pt.box (x : Pt) : Obj := .cells x.cells.toArray 48
abbrev Pt.v (x : Pt) : Value := .agg x.cells.toArray
abbrev pflat (l : List Pt) : List Value := l.flatMap Pt.cells
theorem Pt.one (x : Pt) : ∀ u ∈ x.cells, u.oneCell' = true := by
  intro u hu
  simp only [Pt.cells, List.mem_cons, List.not_mem_nil, or_false] at hu
  rcases hu with rfl | rfl | rfl | rfl | rfl | rfl | rfl | rfl | rfl | rfl | rfl | rfl | rfl <;> rfl
theorem Val.one5 (a : Val) : ∀ u ∈ a.cells, u.oneCell' = true := by
  intro u hu
  simp only [Val.cells, List.mem_cons, List.not_mem_nil, or_false] at hu
  rcases hu with rfl | rfl | rfl | rfl | rfl <;> rfl
theorem pflat_one (l : List Pt) : ∀ u ∈ pflat l, u.oneCell' = true := by
  intro u hu
  obtain ⟨a, -, ha⟩ := List.mem_flatMap.1 hu
  exact a.one u ha
theorem prd_info : (Tryz.prog.info? 48).map (fun i => (i.zero, i.size, i.bytes)) = some (some (pv ⟨⟨#[]⟩, 0, ⟨0, 0, 0, ⟨#[]⟩, false⟩, ⟨0, 0, 0, ⟨#[]⟩, false⟩, []⟩ none 0 0), 13, 144) := by kernel_rfl
theorem prd_size : (Tryz.prog.info? 48).map (·.size) = some 13 := by kernel_rfl
theorem val_size : (Tryz.prog.info? 45).map (·.size) = some 5 := by kernel_rfl
theorem set_size : (Tryz.prog.info? 46).map (·.size) = some 1 := by kernel_rfl
/-- What is right of a test as memory holds it. -/
structure IsPt (w : World) (x : Pt) : Prop where
  is : IsPrd w x.p x.A x.p.set.length
  none_ : x.A = none → x.p.set.length = 0 ∧ x.c = 0
theorem IsPt.kept {S : Nat → Prop} {w w' : World} {x : Pt} (h : IsPt w x) (k : Kept S w w') (hs : ∀ a, x.A = some a → ¬ S a.block) : IsPt w' x := ⟨h.is.kept k hs, h.none_⟩
theorem IsPt.later {w w' : World} {x : Pt} (h : IsPt w x) (k : Below w.heap.size w w') : IsPt w' x := ⟨h.is.later k, h.none_⟩
/-- A slice reads as a row of tests. -/
structure Ps (w : World) (A : Option Addr) (n : Nat) (l : List Pt) : Prop where
  row : Rs 13 w A n (pflat l)
  each : ∀ x, x ∈ l → IsPt w x
  few : n ≤ 9223372036854775807
theorem Ps.len {w : World} {A : Option Addr} {n : Nat} {l : List Pt} (h : Ps w A n l) : l.length = n := by
  have := h.row.1
  rw [flat_len _ Pt.cells_len] at this
  omega
theorem Ps.later {w w' : World} {A : Option Addr} {n : Nat} {l : List Pt} (h : Ps w A n l) (k : Below w.heap.size w w') : Ps w' A n l := ⟨h.row.later k, fun x hx => (h.each x hx).later k, h.few⟩
theorem Ps.kept {S : Nat → Prop} {w w' : World} {A : Option Addr} {n : Nat} {l : List Pt} (h : Ps w A n l) (k : Kept S w w') (hs : ∀ x, A = some x → ¬ S x.block) (hs' : ∀ x, x ∈ l → ∀ a, x.A = some a → ¬ S a.block) : Ps w' A n l :=
  ⟨h.row.kept k hs, fun x hx => (h.each x hx).kept k (hs' x hx), h.few⟩
theorem Ps.at {w : World} {A : Option Addr} {n : Nat} {l : List Pt} (h : Ps w A n l) (h0 : 0 < l.length) : ∃ g o, A = some ⟨g, o, none⟩ ∧ ∀ i x, l[i]? = some x → ∀ j u, x.cells[j]? = some u → w.cell? ⟨g, o + i * 13 + j, none⟩ = some u := by
  have hp : 0 < (pflat l).length := by rw [flat_len _ Pt.cells_len]; omega
  rcases h.row.2 with h1 | ⟨g, o, rfl, hc⟩
  · rw [h1] at hp; simp at hp
  · refine ⟨g, o, rfl, fun i x hi j u hu => ?_⟩
    have hlt : j < 13 := (List.getElem?_eq_some_iff.1 hu).1
    have := hc (i * 13 + j) u (by rw [flat_get _ Pt.cells_len l i j x hi hlt]; exact hu)
    rw [← Nat.add_assoc] at this
    exact this
/-- A row of tests that the call made. -/
abbrev OwnP (B : Nat) (w : World) (v : Value) (l : List Pt) : Prop := OwnW 13 B 48 w v l.length (pflat l)
theorem ownp_add {B : Nat} {w : World} {v : Value} {l m : List Pt} {n : Nat} (h : OwnW 13 B 48 w v (l.length + n) (pflat l ++ pflat m)) (hn : m.length = n := by rfl) : OwnP B w v (l ++ m) := by
  unfold OwnP
  rw [List.length_append, hn, pflat, List.flatMap_append]
  exact h
theorem ownp_at {B : Nat} {w : World} {v : Value} {l : List Pt} (h : OwnP B w v l) (hl : 0 < l.length) : ∃ g c, v = .slice (some ⟨g, 0, none⟩) l.length c ∧ B ≤ g ∧ g < w.heap.size ∧ l.length ≤ c ∧ c ≤ maxLen ∧ ∀ j u, (pflat l)[j]? = some u → w.cell? ⟨g, 0 + j, none⟩ = some u := by
  rcases h.1.2 with ⟨rfl, h0⟩ | ⟨g, cap, cur, rfl, hb, hg, hc, hm, -, -⟩
  · have := h.1.1
    rw [h0] at this
    simp at this
    omega
  · refine ⟨g, cap, rfl, hb, (Array.getElem?_eq_some_iff.1 hg).1, hc, hm, fun j u hj => ?_⟩
    obtain ⟨A, c, e, -, -, hr, -, -, -⟩ := h.reads
    cases e
    rcases hr.2 with h0 | ⟨g', o', e', hc'⟩
    · have := h.1.1
      rw [h0] at this
      simp at this
      omega
    · cases e'
      exact hc' j u hj
theorem new_pt (w : World) (x : Pt) : Rs 13 (w.alloc x.box) (some ⟨w.heap.size, 0, none⟩) 1 (pflat [x]) := by
  refine ⟨rfl, .inr ⟨w.heap.size, 0, rfl, fun j u hj => ?_⟩⟩
  rw [World.cell?_alloc_new, Nat.zero_add]
  simpa [pflat] using hj
theorem val_pred : (45 : TypeId) ≠ 48 := by decide
/-- The Set of a test, in memory that the call made. -/
abbrev OwnS (B : Nat) (w : World) (x : Pt) : Prop := OwnV B w (.slice x.A x.p.set.length x.c) x.p.set
theorem OwnS.none_ {B : Nat} {w : World} {x : Pt} (h : OwnS B w x) : x.A = none → x.p.set.length = 0 ∧ x.c = 0 := by
  obtain ⟨A, c, e, -, -, -, -, -, h0⟩ := h.reads
  cases e
  exact h0
/-- A fine test: what a machine's one is within. -/
structure Pd.Fits (p : Prd) : Prop where
  nm : p.name.size ≤ 9223372036854775807
  v : Fit p.v
  w : Fit p.w
  set : ∀ a, a ∈ p.set → Fit a
theorem IsPrd.fits {w : World} {p : Prd} {A : Option Addr} {n : Nat} (h : IsPrd w p A n) : Pd.Fits p := ⟨h.nm, h.fv, h.fw, h.set.fit⟩
theorem OwnS.is {B : Nat} {w : World} {x : Pt} (h : OwnS B w x) (hf : Pd.Fits x.p) : IsPt w x := ⟨⟨hf.nm, hf.v, hf.w, OwnW.vs h hf.set⟩, h.none_⟩
/-- A copy as far as it has come. -/
structure Cop (w wr : World) (v : Value) (m : List Pt) (ps : List Prd) : Prop where
  map : m.map (·.p) = ps
  own : OwnP w.heap.size wr v m
  sets : ∀ x, x ∈ m → OwnS w.heap.size wr x
  below : Below w.heap.size w wr
theorem Cop.later {w wr wx : World} {v : Value} {m : List Pt} {ps : List Prd} (h : Cop w wr v m ps) (k : Below wr.heap.size wr wx) : Cop w wx v m ps :=
  ⟨h.map, h.own.later k, fun x hx => (h.sets x hx).later k, below_then h.below k⟩
theorem Cop.turn {w wr wx : World} {v : Value} {m : List Pt} {ps : List Prd} {g : Nat} {cs : Array Value} {fr : Nat × Nat} (h : Cop w wr v m ps) (k : Kept (· = g) wr wx) (hg : wr.heap[g]? = some (.cells cs 48 fr)) (hw : w.heap.size ≤ g) (ho : ∀ i, v.ownBlock = some i → i < g) : Cop w wx v m ps :=
  ⟨h.map, h.own.kept k (fun i hi e => by have := ho i hi; omega), fun x hx => (h.sets x hx).kept k (ownw_not (h.sets x hx) hg val_pred), h.below.trans (k.below h.below.size (by intro i hi e; omega))⟩
/-- How the hand's Filter ends. -/
def FilterPost (ps : List Prd) (w : World) (e : Ending) (w' : World) : Prop := ∃ (v : Value) (m : List Pt), e = .returned v ∧ Cop w w' v m ps
theorem cop_round {w w5 w6 : World} {v v6 : Value} {m : List Pt} {ps : List Prd} {x : Pt} (h : Cop w w5 v m ps) (hs : OwnS w.heap.size w5 x) (hO : OwnW 13 w.heap.size 48 w6 v6 (m.length + 1) (pflat m ++ pflat [x])) (hK : Kept (fun i => v.ownBlock = some i) w5 w6) : Cop w w6 v6 (m ++ [x]) (ps ++ [x.p]) := by
  refine ⟨by rw [List.map_append, h.map]; rfl, ownp_add hO, ?_, h.below.trans (hK.below h.below.size (fun k hk e => by have := ownw_base h.own k e; omega))⟩
  intro y hy
  have hy' : OwnS w.heap.size w5 y := by
    rcases List.mem_append.1 hy with hy | hy
    · exact h.sets y hy
    · rw [List.mem_singleton.1 hy]; exact hs
  exact hy'.kept hK (fun i hi e => ownw_types hy' h.own val_pred i hi e)

set_option maxRecDepth 100000 in
set_option maxHeartbeats 4000000 in
theorem hfilter_any {A : Option Addr} {n c : Nat} {l : List Pt} {w : World} (h : Ps w A n l) (hn : l.length ≤ 1000) (hset : ∀ x, x ∈ l → x.p.set.length ≤ 2932031007317) :
    Calls Tryz.prog 23 #[.slice A n c] w (FilterPost (l.map (·.p)) w) := by
  obtain rfl := h.len.symm
  have HP := Lib.hid h
  have HS := Lib.hid hset
  have hst := store_float
  clear h hset
  go_enter Tryz.func23, Tryz.ntmps23
  go_wp2_with fail
  go_loopw [3, 4] (fun v ii wr => ∃ (k : Nat) (m : List Pt), k ≤ l.length ∧ ii = .int .i64 (k : Int) ∧ Cop w wr v m ((l.take k).map (·.p))) (fun _ ii _ => l.length - (intOf ii).toNat)
  case atStart => exact ⟨0, [], by omega, rfl, rfl, OwnW.nil _ _ _ (Nat.le_refl _), by simp, Below.refl _ _⟩
  case round =>
    obtain ⟨k, m, hk, rfl, hc⟩ := hrel
    have hm : m.length = k := by
      have := congrArg List.length hc.map
      simp at this
      omega
    have HC := Lib.hid hc
    clear hc
    by_cases hlt : k < l.length
    · obtain ⟨g, o, rfl, hg⟩ := HP.out.at (by omega)
      obtain ⟨x, hx⟩ : ∃ x, l[k]? = some x := ⟨_, List.getElem?_eq_getElem hlt⟩
      have hxl := List.mem_of_getElem? hx
      have HX := Lib.hid hx
      have HI := Lib.hid ((HP.out.each x hxl).later HC.out.below)
      have HL := HS.out x hxl
      have hcs : ∀ j u, x.cells[j]? = some u → wr.cell? ⟨g, o + k * 13 + j, none⟩ = some u := fun j u hj => (HC.out.below.cell (cell_lt (hg k x hx j u hj))).trans (hg k x hx j u hj)
      have HG := Lib.hid hcs
      clear hg hx hcs
      go_upto_region 6 with (first | (refine wpList_load_at rfl 48 _ rfl g (o + k * 13) x.cells _ rfl HG.out Tryz.underlying48 rfl prd_size ?_; dsimp only [Pt.cells]))
      have hn1 := one_new wr x.box
      have HC1 := Lib.hid (HC.out.later hn1)
      have HI1 := Lib.hid (HI.out.later hn1)
      have HR := Lib.hid (heap_alloc_new wr x.box)
      clear hn1 HI HG
      dsimp only [Pt.box, Pt.cells] at HC1 HI1 HR
      have hgp := HC.out.below.size
      have hog := ownw_lt HC.out.own
      generalize wr.heap.size = gp at HR hgp hog ⊢
      clear HC
      generalize wr.alloc _ = w1 at HC1 HI1 HR ⊢
      have HR : Hid (w1.heap[gp]? = some x.box) := HR
      have c12 : w1.cell? ⟨gp, 12, none⟩ = some (.slice x.A x.p.set.length x.c) := cell_of_row _ _ 12 _ _ _ HR.out
      have f12 := frozen_of_row _ _ 12 _ _ HR.out
      go_upto_region 7 with (first | (at_builtin; refine wpList_ownb (k := 5) rfl _ _ 46 rfl Tryz.underlying46 val_info rfl (by decide) w.heap.size _ 0 [] rfl (OwnW.nil _ _ _ HC1.out.below.size) x.A x.p.set.length x.c rfl HI1.out.none_ (vflat x.p.set) HI1.out.is.set.row (vflat_one _) (by unfold maxLen; omega) (by omega) ?_; intro v2 w2 hO2 hK2; obtain ⟨A2, c2, rfl, -⟩ := hO2.reads; have HO2 := Lib.hid hO2; have hb2 : Below w1.heap.size w1 w2 := hK2.below (Nat.le_refl _) (fun k _ e => by cases e); have HR2 := Lib.hid (below_row hb2 HR.out); have HC2 := Lib.hid (HC1.out.later hb2); have c12' : w2.cell? ⟨gp, 12, none⟩ = some (.slice x.A x.p.set.length x.c) := cell_of_row _ _ 12 _ _ _ HR2.out; have f12' := frozen_of_row _ _ 12 _ _ HR2.out; clear hO2 hK2 hb2 HR HC1 c12 f12))
      have hk3 : Kept (· = gp) w2 (w2.setCell ⟨gp, 12, none⟩ (.slice A2 (0 + x.p.set.length) c2)) := Kept.setCell (S := (· = gp)) w2 ⟨gp, 12, none⟩ rfl _
      have HR3 := Lib.hid (heap_setCell_same w2 gp 12 _ _ (.slice A2 (0 + x.p.set.length) c2) HR2.out)
      have HO3 := Lib.hid (HO2.out.kept hk3 (ownw_not HO2.out HR2.out val_pred))
      have HC3 := Lib.hid (HC2.out.turn hk3 HR2.out hgp hog)
      rw [Nat.zero_add, List.nil_append] at HO3
      rw [Nat.zero_add] at HR3 HC3
      clear hk3 HO2 HR2 HC2 c12' f12' HI1
      generalize w2.setCell _ _ = w3 at HO3 HR3 HC3 ⊢
      have HO3 : Hid (OwnS w.heap.size w3 ⟨x.p, A2, c2⟩) := HO3
      have HR3 : Hid (w3.heap[gp]? = some (Pt.box ⟨x.p, A2, c2⟩)) := HR3
      have HG3 := Lib.hid (cells_row HR3.out)
      go_wp2_with (first | (at_builtin; refine wpList_ownw (k := 13) rfl _ _ 22 rfl Tryz.underlying22 prd_info rfl (by decide) w.heap.size _ m.length (pflat m) rfl (HC3.out.own.later (one_new _ _)) _ 1 1 rfl (fun h => by cases h) (pflat [⟨x.p, A2, c2⟩]) (new_pt w3 ⟨x.p, A2, c2⟩) (pflat_one _) (by omega) (by decide) ?_; intro v6 w6 hO6 hK6; have HO6 := Lib.hid hO6; have HK6 := Lib.hid hK6; clear hO6 hK6) | (refine wpList_load_at rfl 48 _ rfl gp 0 (Pt.cells ⟨x.p, A2, c2⟩) _ rfl HG3.out Tryz.underlying48 rfl prd_size ?_; dsimp only [Pt.cells]))
      have HC6 := cop_round (HC3.out.later (one_new w3 (Pt.box ⟨x.p, A2, c2⟩))) (HO3.out.later (one_new w3 (Pt.box ⟨x.p, A2, c2⟩))) HO6.out HK6.out
      have e : (l.take (k + 1)).map (·.p) = (l.take k).map (·.p) ++ [x.p] := by rw [List.take_add_one, HX.out]; simp
      exact ⟨⟨k + 1, m ++ [⟨x.p, A2, c2⟩], by omega, rfl, by rw [e]; exact HC6⟩, by simp [intOf]; omega⟩
    · obtain rfl : k = l.length := by omega
      go_wp2_with fail
      go_ret
      exact ⟨_, m, rfl, by have := HC.out; rw [List.take_length] at this; exact this⟩
end Go.Proofs.YtfbfbajccphkoaaGreat
