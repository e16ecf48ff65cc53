
/- An argument that is a test: what it is. -/
import Derived.Test.YtddgpbokfglieaaPredImplies
import Derived.Test.YtddgpbokfglieaaOpenVal
import Derived.Deep.Slices
import Derived.ChangeSame
namespace Go.Proofs.Ytddgpbokfglieaa
open Go.ChangeShapes Go.WideShapes Go.ChangeAt Go.RowKit Go.Deep

theorem int_range {n : Int} (h : (Lit.int .i64 n).wf = true) : -9223372036854775808 ≤ n ∧ n ≤ 9223372036854775807 := by
  simp only [Lit.wf, decide_eq_true_eq, Bool.and_eq_true] at h
  exact h
theorem trod_val {H : Type} {enc : TypeId × Value → H} {w : World} {base fuel : Nat} {spare : Nat → Bool} {held : Bool} {cs : List Value} {x : DataW H × List MemPlace}
    (h : DataW.trod enc Try.prog w base spare held fuel 24 cs = some x) : ∃ a : Val, cs = a.cells ∧ Fit a := by
  obtain ⟨ys, m, -, -, hl, hy, hf⟩ := DataW.trod_struct Try.underlying24 h
  have hl5 : cs.length = 5 := hl.trans (by kernel_rfl)
  have hy5 : ys.length = 5 := hy
  have f0 := hf 0 _ rfl
  have f1 := hf 1 _ rfl
  have f2 := hf 2 _ rfl
  have f3 := hf 3 _ rfl
  have f4 := hf 4 _ rfl
  clear hf hy hl h
  match cs, hl5, ys, hy5 with
  | [v1, v2, v3, v4, v5], _, [z0, z1, z2, z3, z4], _ =>
    obtain ⟨k, e1, -, -⟩ := DataW.trod_int Try.underlying3 (x := z0) f0
    obtain ⟨q, e2, -, w2⟩ := DataW.trod_int Try.underlying2 (x := z1) f1
    obtain ⟨f, e3, -⟩ := trod_flo (x := z2) f2
    obtain ⟨t, e4, -, w4⟩ := DataW.trod_string Try.underlying9 (x := z3) f3
    obtain ⟨b, e5, -⟩ := DataW.trod_bool Try.underlying4 (x := z4) f4
    have j1 : v1 = .int .i64 k := List.cons.inj e1 |>.1
    have j2 : v2 = .int .i64 q := List.cons.inj e2 |>.1
    have j3 : v3 = .float .f64 f := List.cons.inj e3 |>.1
    have j4 : v4 = .string t := List.cons.inj e4 |>.1
    have j5 : v5 = .bool b := List.cons.inj e5 |>.1
    exact ⟨⟨k, q, f, t, b⟩, by rw [j1, j2, j3, j4, j5]; rfl, (int_range w2).1, (int_range w2).2, by show t.size ≤ _; unfold maxLen at w4; omega⟩
theorem vrow_of (w : World) (g o : Nat) : ∀ n : Nat, (∀ i, i < n → ∃ a : Val, (∀ j u, a.cells[j]? = some u → w.cell? ⟨g, o + (i * 5 + j), none⟩ = some u) ∧ Fit a) →
    ∃ l : List Val, l.length = n ∧ (∀ a, a ∈ l → Fit a) ∧ ∀ j u, (vflat l)[j]? = some u → w.cell? ⟨g, o + j, none⟩ = some u
  | 0, _ => ⟨[], rfl, by simp, by simp⟩
  | n + 1, h => by
    obtain ⟨l, hl, hz, hc⟩ := vrow_of w g o n (fun i hi => h i (by omega))
    obtain ⟨a, ha, hza⟩ := h n (by omega)
    refine ⟨l ++ [a], by simp [hl], ?_, ?_⟩
    · intro x hx
      rcases List.mem_append.1 hx with hx | hx
      · exact hz x hx
      · rw [List.mem_singleton.1 hx]; exact hza
    · intro j u hj
      have hs : vflat (l ++ [a]) = vflat l ++ a.cells := by unfold vflat; rw [List.flatMap_append]; simp
      have hlen : (vflat l).length = n * 5 := by rw [flat_len _ Val.cells_len, hl]
      rw [hs] at hj
      rcases Nat.lt_or_ge j (n * 5) with h1 | h1
      · rw [List.getElem?_append_left (by omega)] at hj
        exact hc j u hj
      · rw [List.getElem?_append_right (by omega), hlen] at hj
        have := ha (j - n * 5) u hj
        rw [show o + (n * 5 + (j - n * 5)) = o + j by omega] at this
        exact this
/-- A Set that is read: a row of values. -/
theorem trod_set {H : Type} {enc : TypeId × Value → H} {w : World} {base fuel : Nat} {spare : Nat → Bool} {held : Bool} {cs : List Value} {x : DataW H × List MemPlace}
    (h : DataW.trod enc Try.prog w base spare held fuel 28 cs = some x) (hs : ∀ a n c, cs = [.slice (some a) n c] → a.spot = none) :
    ∃ (A : Option Addr) (c : Nat) (l : List Val), cs = [.slice A l.length c] ∧ Vs w A l.length l ∧ (A = none → l.length = 0 ∧ c = 0) ∧ l.length ≤ c := by
  rcases open_slice Try.underlying28 h with ⟨h0, -⟩ | ⟨a, len, cap, m, q, D, Pl, hcs, -, hl, hm, hmm, -, hi⟩
  · exact ⟨none, 0, [], h0, ⟨Rs.nil _ _ _, by simp, by simp⟩, fun _ => ⟨rfl, rfl⟩, Nat.le_refl _⟩
  · have hsp := hs a len cap hcs
    obtain ⟨g, o, sp⟩ := a
    cases hsp
    have hnm : len ≤ m := by rw [hmm]; split <;> omega
    have hC : Try.prog.cellsOf 24 = 5 := by kernel_rfl
    rw [hC] at hi
    obtain ⟨l, hl1, hz, hc⟩ := vrow_of w g o len (fun i hin => by
      obtain ⟨cs', hc', ht'⟩ := hi i (by omega)
      obtain ⟨a, rfl, hza⟩ := trod_val ht'
      refine ⟨a, fun j u hj => ?_, hza⟩
      obtain ⟨-, -, hat⟩ := World.cells?_some hc'
      have hj5 : j < 5 := (List.getElem?_eq_some_iff.1 hj).1
      have := hat j hj5
      rw [hj] at this
      rw [addr_at, addr_at] at this
      rw [← Nat.add_assoc]
      exact this)
    refine ⟨some ⟨g, o, none⟩, cap, l, by rw [hl1]; exact hcs, ⟨⟨flat_len _ Val.cells_len l, .inr ⟨g, o, rfl, hc⟩⟩, hz, by unfold maxLen at hm; omega⟩, (fun e => by cases e), by omega⟩
theorem trod_pt {H : Type} {enc : TypeId × Value → H} {w : World} {base fuel : Nat} {spare : Nat → Bool} {held : Bool} {cs : List Value} {x : DataW H × List MemPlace}
    (h : DataW.trod enc Try.prog w base spare held fuel 30 cs = some x) (hs : ∀ a n c, cs[12]? = some (.slice (some a) n c) → a.spot = none) : ∃ x : Pt, cs = x.cells ∧ IsPt w x ∧ x.p.set.length ≤ x.c := by
  obtain ⟨xs, n, -, -, hl, hx, hg⟩ := DataW.trod_struct Try.underlying30 h
  have hl13 : cs.length = 13 := hl.trans (by kernel_rfl)
  have hx5 : xs.length = 5 := hx
  have g0 := hg 0 _ rfl
  have g1 := hg 1 _ rfl
  have g2 := hg 2 _ rfl
  have g3 := hg 3 _ rfl
  have g4 := hg 4 _ rfl
  clear hg hl hx h
  match cs, hl13, xs, hx5 with
  | [v0, v1, v2, v3, v4, v5, v6, v7, v8, v9, v10, v11, v12], _, [y0, y1, y2, y3, y4], _ =>
    obtain ⟨s, e0, -, w0⟩ := DataW.trod_string Try.underlying9 (x := y0) g0
    obtain ⟨t, e1, -, -⟩ := DataW.trod_int Try.underlying3 (x := y1) g1
    obtain ⟨a, e2, fa⟩ := trod_val (x := y2) g2
    obtain ⟨b, e3, fb⟩ := trod_val (x := y3) g3
    obtain ⟨A, c, l, e4, hv, h0, hr⟩ := trod_set (x := y4) g4 (fun a n c e => hs a n c (congrArg some (List.cons.inj e).1))
    have j0 : v0 = .string s := List.cons.inj e0 |>.1
    have j1 : v1 = .int .i64 t := List.cons.inj e1 |>.1
    have j2 : [v2, v3, v4, v5, v6] = a.cells := e2
    have j3 : [v7, v8, v9, v10, v11] = b.cells := e3
    have j4 : v12 = .slice A l.length c := List.cons.inj e4 |>.1
    simp only [Val.cells, List.cons.injEq, and_true] at j2 j3
    obtain ⟨i0, i1, i2, i3, i4⟩ := j2
    obtain ⟨k0, k1, k2, k3, k4⟩ := j3
    refine ⟨⟨⟨s, t, a, b, l⟩, A, c⟩, ?_, ⟨⟨by show s.size ≤ _; unfold maxLen at w0; omega, fa, fb, hv⟩, h0⟩, hr⟩
    rw [j0, j1, i0, i1, i2, i3, i4, k0, k1, k2, k3, k4, j4]
    rfl
theorem pred_cells : (Try.prog.cellTypes Try.prog.depth 30).map (fun ts => (ts.length, ts[12]?)) = some (13, some 28) := by kernel_rfl
theorem has_at {w : World} {r : Reach} {base : Nat} {t e : TypeId} {a : Addr} {n c : Nat} (ht : Try.prog.underlying t = some (.slice e)) (h : Cell.okWide Try.prog w r base t (.slice (some a) n c)) : a.spot = none ∧ a.block < w.heap.size := by
  simp only [ht, Cell.okWide, Cell.ok] at h
  refine ⟨h.2.2.2.1, ?_⟩
  obtain ⟨row, cells, hs, -⟩ := h.2.2.2.2
  unfold World.shape? at hs
  rcases Nat.lt_or_ge a.block w.heap.size with hl | hl
  · exact hl
  · rw [Array.getElem?_eq_none hl] at hs; cases hs
theorem open_prd {H : Type} {enc : TypeId × Value → H} {w : World} {base b0 : Nat} {spare : Nat → Bool} {held : Bool} {r : Reach} {v : Value} {d : DataW H} {p : List MemPlace}
    (hv : Value.okWide Try.prog w r b0 30 v) (h : DataW.Trod enc Try.prog w base spare held 30 v d p) : ∃ x : Pt, v = pv x.p x.A x.p.set.length x.c ∧ IsArg w x := by
  simp only [Value.okWide, Try.underlying30] at hv
  obtain ⟨cs, rfl, -, ts, hts, -, hrow⟩ := hv
  have hpc := pred_cells
  rw [hts] at hpc
  obtain ⟨hlen, h12⟩ := Prod.mk.inj (Option.some.inj hpc)
  have key : ∀ a n c, cs[12]? = some (.slice (some a) n c) → a.spot = none ∧ a.block < w.heap.size := by
    intro a n c e
    obtain ⟨u, hu, hk⟩ := hrow 12 _ e
    rw [hlen] at hu
    rw [h12] at hu
    cases hu
    exact has_at Try.underlying28 hk
  obtain ⟨fuel, hf⟩ := h
  obtain ⟨x, hx, hi, hr⟩ := trod_pt hf (fun a n c e => (key a n c (by simpa [Value.cells] using e)).1)
  have hcs : cs = x.cells.toArray := by rw [← hx]; simp [Value.cells]
  refine ⟨x, by rw [hcs]; rfl, hi, fun z hz => ?_, hr⟩
  exact key z x.p.set.length x.c (by rw [hcs, ← hz]; rfl)
end Go.Proofs.Ytddgpbokfglieaa
