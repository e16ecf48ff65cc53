
/- Arguments that are rows of tests, rows of attributes: how they read, and what they weigh. -/
import Derived.Test.YtfbfbajccphkoaaGreatFilters2
import Derived.Test.YtfbfbajccphkoaaGreatOpenAtts
import Derived.SizedLaws
namespace Go.Proofs.YtfbfbajccphkoaaGreat
open Go.ChangeShapes Go.WideShapes Go.ChangeAt Go.RowKit Go.Deep
set_option maxRecDepth 100000

theorem int_range {n : Int} (h : (Lit.int .i64 n).wf = true) : -9223372036854775808 ≤ n ∧ n ≤ 9223372036854775807 := by
  simp only [Lit.wf, decide_eq_true_eq, Bool.and_eq_true] at h
  exact h
theorem trod_val {H : Type} {enc : TypeId × Value → H} {w : World} {base fuel : Nat} {spare : Nat → Bool} {held : Bool} {cs : List Value} {x : DataW H × List MemPlace}
    (h : DataW.trod enc Tryz.prog w base spare held fuel 45 cs = some x) : ∃ a : Val, cs = a.cells ∧ Fit a := by
  obtain ⟨ys, m, -, -, hl, hy, hf⟩ := DataW.trod_struct Tryz.underlying45 h
  have hl5 : cs.length = 5 := hl.trans (by kernel_rfl)
  have hy5 : ys.length = 5 := hy
  have f0 := hf 0 _ rfl
  have f1 := hf 1 _ rfl
  have f2 := hf 2 _ rfl
  have f3 := hf 3 _ rfl
  have f4 := hf 4 _ rfl
  clear hf hy hl h
  match cs, hl5, ys, hy5 with
  | [v1, v2, v3, v4, v5], _, [z0, z1, z2, z3, z4], _ =>
    obtain ⟨k, e1, -, -⟩ := DataW.trod_int Tryz.underlying3 (x := z0) f0
    obtain ⟨q, e2, -, w2⟩ := DataW.trod_int Tryz.underlying2 (x := z1) f1
    obtain ⟨f, e3, -⟩ := trod_flo (x := z2) f2
    obtain ⟨t, e4, -, w4⟩ := DataW.trod_string Tryz.underlying9 (x := z3) f3
    obtain ⟨b, e5, -⟩ := DataW.trod_bool Tryz.underlying4 (x := z4) f4
    have j1 : v1 = .int .i64 k := List.cons.inj e1 |>.1
    have j2 : v2 = .int .i64 q := List.cons.inj e2 |>.1
    have j3 : v3 = .float .f64 f := List.cons.inj e3 |>.1
    have j4 : v4 = .string t := List.cons.inj e4 |>.1
    have j5 : v5 = .bool b := List.cons.inj e5 |>.1
    exact ⟨⟨k, q, f, t, b⟩, by rw [j1, j2, j3, j4, j5]; rfl, (int_range w2).1, (int_range w2).2, by show t.size ≤ _; unfold maxLen at w4; omega⟩
/-- A row whose elements are told one by one: elements of k cells. -/
theorem rows_of {α : Type} {k : Nat} (cells : α → List Value) (hk : ∀ a, (cells a).length = k) (Q : α → Prop) (w : World) (g o : Nat) : ∀ n : Nat, (∀ i, i < n → ∃ a : α, (∀ j u, (cells a)[j]? = some u → w.cell? ⟨g, o + (i * k + j), none⟩ = some u) ∧ Q a) →
    ∃ l : List α, l.length = n ∧ (∀ a, a ∈ l → Q a) ∧ ∀ j u, (l.flatMap cells)[j]? = some u → w.cell? ⟨g, o + j, none⟩ = some u
  | 0, _ => ⟨[], rfl, by simp, by simp⟩
  | n + 1, h => by
    obtain ⟨l, hl, hz, hc⟩ := rows_of cells hk Q w g o n (fun i hi => h i (by omega))
    obtain ⟨a, ha, hza⟩ := h n (by omega)
    refine ⟨l ++ [a], by simp [hl], ?_, ?_⟩
    · intro x hx
      rcases List.mem_append.1 hx with hx | hx
      · exact hz x hx
      · rw [List.mem_singleton.1 hx]; exact hza
    · intro j u hj
      have hs : (l ++ [a]).flatMap cells = l.flatMap cells ++ cells a := by rw [List.flatMap_append]; simp
      have hlen : (l.flatMap cells).length = n * k := by rw [flat_len cells hk, hl]
      rw [hs] at hj
      rcases Nat.lt_or_ge j (n * k) with h1 | h1
      · rw [List.getElem?_append_left (by omega)] at hj
        exact hc j u hj
      · rw [List.getElem?_append_right (by omega), hlen] at hj
        have := ha (j - n * k) u hj
        rw [show o + (n * k + (j - n * k)) = o + j by omega] at this
        exact this
theorem cell_block {w : World} {a : Addr} {v : Value} (h : w.cell? a = some v) : a.spot = none ∧ a.block < w.heap.size := by
  refine ⟨?_, cell_lt h⟩
  obtain ⟨g, o, sp⟩ := a
  cases sp with
  | none => rfl
  | some x =>
    unfold World.cell? at h
    split at h
    · simp at h
    · cases h
/-- A Set that is read: a row of values, in memory that is there, and what it weighs. -/
theorem trod_set {H : Type} {enc : TypeId × Value → H} {w : World} {base fuel : Nat} {spare : Nat → Bool} {held : Bool} {cs : List Value} {x : DataW H × List MemPlace}
    (h : DataW.trod enc Tryz.prog w base spare held fuel 46 cs = some x) :
    ∃ (A : Option Addr) (c : Nat) (l : List Val), cs = [.slice A l.length c] ∧ Vs w A l.length l ∧ (A = none → l.length = 0 ∧ c = 0) ∧ l.length ≤ c ∧ (l.length ≠ 0 → ∀ z, A = some z → z.block < w.heap.size) ∧ (∀ N, (∀ n ∈ x.1.weights Tryz.prog 46, n ≤ N) → l.length * 48 ≤ N) := by
  rcases open_slice Tryz.underlying46 h with ⟨h0, hx⟩ | ⟨a, len, cap, m, q, D, Pl, hcs, -, hl, hm, hmm, hx, hi⟩
  · exact ⟨none, 0, [], h0, ⟨Rs.nil _ _ _, by simp, by simp⟩, fun _ => ⟨rfl, rfl⟩, Nat.le_refl _, by simp, by simp⟩
  · have hnm : len ≤ m := by rw [hmm]; split <;> omega
    have hC : Tryz.prog.cellsOf 45 = 5 := by kernel_rfl
    have hBy : Tryz.prog.bytesOf 45 = 48 := by kernel_rfl
    have hwt : ∀ N, (∀ n ∈ x.1.weights Tryz.prog 46, n ≤ N) → len * 48 ≤ N := by
      intro N hN
      have := hN ((len + (m - len)) * 48) (by rw [hx]; simp [DataW.weights, Tryz.underlying46, hBy])
      omega
    rw [hC] at hi
    by_cases h0 : len = 0
    · subst h0
      exact ⟨some a, cap, [], hcs, ⟨⟨rfl, .inl rfl⟩, by simp, by simp⟩, (fun e => by cases e), by simp, by simp, hwt⟩
    · obtain ⟨cs0, hc0, ht0⟩ := hi 0 (by omega)
      obtain ⟨b0, rfl, -⟩ := trod_val ht0
      obtain ⟨-, -, hat0⟩ := World.cells?_some hc0
      have hz : w.cell? a = some (.int .i64 b0.k) := by
        have := hat0 0 (by omega)
        have e : (a.add (0 * 5)).add 0 = a := by unfold Addr.add; simp
        rw [e] at this
        exact this
      obtain ⟨hsp, hbl⟩ := cell_block hz
      obtain ⟨g, o, sp⟩ := a
      cases hsp
      obtain ⟨l, hl1, hzz, hc⟩ := rows_of (k := 5) Val.cells Val.cells_len Fit w g o len (fun i hin => by
        obtain ⟨cs', hc', ht'⟩ := hi i (by omega)
        obtain ⟨a, rfl, hza⟩ := trod_val ht'
        refine ⟨a, fun j u hj => ?_, hza⟩
        obtain ⟨-, -, hat⟩ := World.cells?_some hc'
        have hj5 : j < 5 := (List.getElem?_eq_some_iff.1 hj).1
        have := hat j hj5
        rw [hj] at this
        rw [addr_at, addr_at] at this
        rw [← Nat.add_assoc]
        exact this)
      subst hl1
      exact ⟨some ⟨g, o, none⟩, cap, l, hcs, ⟨⟨flat_len _ Val.cells_len l, .inr ⟨g, o, rfl, hc⟩⟩, hzz, by unfold maxLen at hm; omega⟩, (fun e => by cases e), hl, (fun _ z e => by cases e; exact hbl), hwt⟩
/-- One of the tests. -/
structure RawAt (w : World) (N : Nat) (x : Pt) : Prop where
  is : IsPt w x
  low : x.p.set.length ≠ 0 → ∀ z, x.A = some z → z.block < w.heap.size
  few : x.p.set.length * 48 ≤ N
theorem trod_pt {H : Type} {enc : TypeId × Value → H} {w : World} {base fuel : Nat} {spare : Nat → Bool} {held : Bool} {cs : List Value} {x : DataW H × List MemPlace}
    (h : DataW.trod enc Tryz.prog w base spare held fuel 48 cs = some x) : ∃ y : Pt, cs = y.cells ∧ ∀ N, (∀ n ∈ x.1.weights Tryz.prog 48, n ≤ N) → RawAt w N y := by
  obtain ⟨xs, n, -, hxs, hl, hx, hg⟩ := DataW.trod_struct Tryz.underlying48 h
  have hl13 : cs.length = 13 := hl.trans (by kernel_rfl)
  have hx5 : xs.length = 5 := hx
  have g0 := hg 0 _ rfl
  have g1 := hg 1 _ rfl
  have g2 := hg 2 _ rfl
  have g3 := hg 3 _ rfl
  have g4 := hg 4 _ rfl
  clear hg hl hx h
  match cs, hl13, xs, hx5 with
  | [v0, v1, v2, v3, v4, v5, v6, v7, v8, v9, v10, v11, v12], _, [y0, y1, y2, y3, y4], _ =>
    obtain ⟨s, e0, -, w0⟩ := DataW.trod_string Tryz.underlying9 (x := y0) g0
    obtain ⟨t, e1, -, -⟩ := DataW.trod_int Tryz.underlying3 (x := y1) g1
    obtain ⟨a, e2, fa⟩ := trod_val (x := y2) g2
    obtain ⟨b, e3, fb⟩ := trod_val (x := y3) g3
    obtain ⟨A, c, l, e4, hv, h0, hr, hlow, hwt⟩ := trod_set (x := y4) g4
    have j0 : v0 = .string s := List.cons.inj e0 |>.1
    have j1 : v1 = .int .i64 t := List.cons.inj e1 |>.1
    have j2 : [v2, v3, v4, v5, v6] = a.cells := e2
    have j3 : [v7, v8, v9, v10, v11] = b.cells := e3
    have j4 : v12 = .slice A l.length c := List.cons.inj e4 |>.1
    simp only [Val.cells, List.cons.injEq, and_true] at j2 j3
    obtain ⟨i0, i1, i2, i3, i4⟩ := j2
    obtain ⟨k0, k1, k2, k3, k4⟩ := j3
    refine ⟨⟨⟨s, t, a, b, l⟩, A, c⟩, ?_, fun N hN => ⟨⟨⟨by show s.size ≤ _; unfold maxLen at w0; omega, fa, fb, hv⟩, h0⟩, hlow, hwt N (fun n hn => hN n ?_)⟩⟩
    · rw [j0, j1, i0, i1, i2, i3, i4, k0, k1, k2, k3, k4, j4]
      rfl
    · rw [hxs]
      simp only [DataW.weights, Tryz.underlying48, DataW.weightsEach, List.map_cons, List.mem_append]
      exact .inr (.inr (.inr (.inr (.inl hn))))
theorem weights_mem_all {H : Type} {P : Program} {e : TypeId} : ∀ {ds : List (DataW H)} {d : DataW H}, d ∈ ds → ∀ n ∈ d.weights P e, n ∈ DataW.weightsAll P e ds
  | d0 :: ds, d, hd, n, hn => by
    simp only [DataW.weightsAll, List.mem_append]
    rcases List.mem_cons.1 hd with rfl | hd
    · exact .inl hn
    · exact .inr (weights_mem_all hd n hn)
/-- The argument raw. -/
theorem open_prds {H : Type} {enc : TypeId × Value → H} {w : World} {base b0 : Nat} {spare : Nat → Bool} {held : Bool} {r : Reach} {v : Value} {d : DataW H} {p : List MemPlace}
    (hv : Value.okWide Tryz.prog w r b0 22 v) (h : DataW.Trod enc Tryz.prog w base spare held 22 v d p) (hsz : ∀ n ∈ d.weights Tryz.prog 22, n ≤ reachBytes) :
    ∃ R : Ft, v = .slice R.A R.l.length R.c ∧ IsRaw w.heap.size 2932031007317 w R := by
  have hrb : reachBytes = 140737488351232 := by kernel_rfl
  rw [hrb] at hsz
  obtain ⟨A, n, c, rfl⟩ := okWide_slice Tryz.underlying22 hv
  obtain ⟨fuel, hf⟩ := h
  rcases open_slice Tryz.underlying22 hf with ⟨h0, -⟩ | ⟨a, len, cap, m, q, D, Pl, hcs, -, hl, hm, hmm, hx, hi⟩
  · simp [Value.cells] at h0
    obtain ⟨rfl, rfl, rfl⟩ := h0
    exact ⟨⟨none, 0, []⟩, rfl, (is_nil _).is, by simp, by simp, Nat.le_refl _, by simp⟩
  · simp [Value.cells] at hcs
    obtain ⟨rfl, rfl, rfl⟩ := hcs
    obtain ⟨hsp, hlt⟩ := slice_at Tryz.underlying22 hv
    obtain ⟨g, o, sp⟩ := a
    cases hsp
    have hnm : n ≤ m := by rw [hmm]; split <;> omega
    have hC : Tryz.prog.cellsOf 48 = 13 := by kernel_rfl
    rw [hC] at hi
    have hd : d = (DataW.slice ((List.range n).map D) ((List.range (m - n)).map fun j => D (n + j))) := congrArg Prod.fst hx
    obtain ⟨l, hl1, hz, hc⟩ := rows_of (k := 13) Pt.cells Pt.cells_len (RawAt w 140737488351232) w g o n (fun i hin => by
      obtain ⟨cs', hc', ht'⟩ := hi i (by omega)
      obtain ⟨a, rfl, hza⟩ := trod_pt ht'
      refine ⟨a, fun j u hj => ?_, hza _ (fun k hk => hsz k ?_)⟩
      · obtain ⟨-, -, hat⟩ := World.cells?_some hc'
        have hj13 : j < 13 := (List.getElem?_eq_some_iff.1 hj).1
        have := hat j hj13
        rw [hj] at this
        rw [addr_at, addr_at] at this
        rw [← Nat.add_assoc]
        exact this
      · rw [hd]
        simp only [DataW.weights, Tryz.underlying22, List.mem_cons, List.mem_append]
        exact .inr (.inl (weights_mem_all (List.mem_map.2 ⟨i, List.mem_range.2 hin, rfl⟩) k hk)))
    subst hl1
    refine ⟨⟨some ⟨g, o, none⟩, c, l⟩, rfl, ⟨⟨⟨flat_len _ Pt.cells_len l, .inr ⟨g, o, rfl, hc⟩⟩, fun x hx => (hz x hx).is, by show l.length ≤ _; unfold maxLen at hm; omega⟩, (fun e => by cases e)⟩, (fun z e => by cases e; exact ⟨rfl, hlt⟩), fun x hx => (hz x hx).low, hl, fun x hx => by have := (hz x hx).few; omega⟩
theorem trod_attf {H : Type} {enc : TypeId × Value → H} {w : World} {base fuel : Nat} {spare : Nat → Bool} {held : Bool} {cs : List Value} {x : DataW H × List MemPlace}
    (h : DataW.trod enc Tryz.prog w base spare held fuel 54 cs = some x) : ∃ a : Att, cs = a.cells ∧ a.name.size ≤ maxLen ∧ Fit a.v := by
  obtain ⟨xs, n, -, -, hl, hx, hg⟩ := DataW.trod_struct Tryz.underlying54 h
  have hl6 : cs.length = 6 := hl.trans (by kernel_rfl)
  have hx2 : xs.length = 2 := hx
  have g0 := hg 0 _ rfl
  have g1 := hg 1 _ rfl
  clear hg hl hx h
  match cs, hl6, xs, hx2 with
  | [v0, v1, v2, v3, v4, v5], _, [y0, y1], _ =>
    obtain ⟨s, e0, -, w0⟩ := DataW.trod_string Tryz.underlying9 (x := y0) g0
    obtain ⟨a, e1, fa⟩ := trod_val (x := y1) g1
    have j0 : v0 = .string s := List.cons.inj e0 |>.1
    have j1 : [v1, v2, v3, v4, v5] = a.cells := e1
    exact ⟨⟨s, a⟩, by rw [j0]; show _ = Value.string s :: a.cells; rw [← j1], w0, fa⟩
/-- Attributes that came in: as open_atts, and their values fit. -/
theorem open_attsf {H : Type} {enc : TypeId × Value → H} {w : World} {base b0 : Nat} {spare : Nat → Bool} {held : Bool} {r : Reach} {v : Value} {d : DataW H} {p : List MemPlace}
    (hv : Value.okWide Tryz.prog w r b0 23 v) (h : DataW.Trod enc Tryz.prog w base spare held 23 v d p) : ∃ A n c l, v = .slice A n c ∧ IsAtts w A n c l ∧ ∀ a, a ∈ l → Fit a.v := by
  obtain ⟨A, n, c, rfl⟩ := okWide_slice Tryz.underlying23 hv
  refine ⟨A, n, c, ?_⟩
  obtain ⟨fuel, hf⟩ := h
  rcases open_slice Tryz.underlying23 hf with ⟨h0, -⟩ | ⟨a, len, cap, m, q, D, Pl, hcs, -, hl, hm, hmm, -, hi⟩
  · simp [Value.cells] at h0
    obtain ⟨rfl, rfl, rfl⟩ := h0
    exact ⟨[], rfl, ⟨⟨Rs.nil _ _ _, by simp, by omega⟩, by omega, (fun _ => ⟨rfl, rfl⟩), fun x e => by cases e⟩, by simp⟩
  · simp [Value.cells] at hcs
    obtain ⟨rfl, rfl, rfl⟩ := hcs
    obtain ⟨hsp, hlt⟩ := slice_at Tryz.underlying23 hv
    obtain ⟨g, o, sp⟩ := a
    cases hsp
    have hnm : n ≤ m := by rw [hmm]; split <;> omega
    have hC : Tryz.prog.cellsOf 54 = 6 := by kernel_rfl
    rw [hC] at hi
    obtain ⟨l, hl1, hz, hc⟩ := rows_of (k := 6) Att.cells Att.cells_len (fun a => a.name.size ≤ maxLen ∧ Fit a.v) w g o n (fun i hin => by
      obtain ⟨cs', hc', ht'⟩ := hi i (by omega)
      obtain ⟨a, rfl, hza⟩ := trod_attf ht'
      refine ⟨a, fun j u hj => ?_, hza⟩
      obtain ⟨-, -, hat⟩ := World.cells?_some hc'
      have hj6 : j < 6 := (List.getElem?_eq_some_iff.1 hj).1
      have := hat j hj6
      rw [hj] at this
      rw [addr_at, addr_at] at this
      rw [← Nat.add_assoc]
      exact this)
    subst hl1
    refine ⟨l, rfl, ⟨⟨⟨flat_len _ Att.cells_len l, .inr ⟨g, o, rfl, hc⟩⟩, fun a ha => by have := (hz a ha).1; unfold maxLen at this; omega, by unfold maxLen at hm; omega⟩, hl, (fun e => by cases e), fun x e => by cases e; exact ⟨rfl, hlt⟩⟩, fun a ha => (hz a ha).2⟩
end Go.Proofs.YtfbfbajccphkoaaGreat
