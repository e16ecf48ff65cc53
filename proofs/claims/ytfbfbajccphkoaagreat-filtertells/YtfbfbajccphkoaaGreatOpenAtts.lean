
/- An argument that is a slice of attributes: how it reads. -/
import Derived.Test.YtfbfbajccphkoaaGreatAtt
import Derived.Test.YtfbfbajccphkoaaGreatOpenVal
import Derived.Deep.Slices
import Derived.ChangeSame
namespace Go.Proofs.YtfbfbajccphkoaaGreat
open Go.ChangeShapes Go.WideShapes Go.ChangeAt Go.RowKit Go.Deep
set_option maxRecDepth 100000

theorem trod_att {H : Type} {enc : TypeId × Value → H} {w : World} {base fuel : Nat} {spare : Nat → Bool} {held : Bool} {cs : List Value} {x : DataW H × List MemPlace}
    (h : DataW.trod enc Tryz.prog w base spare held fuel 54 cs = some x) : ∃ a : Att, cs = a.cells ∧ a.name.size ≤ maxLen := by
  obtain ⟨xs, n, -, -, hl, hx, hg⟩ := DataW.trod_struct Tryz.underlying54 h
  have hl6 : cs.length = 6 := hl.trans (by kernel_rfl)
  have hx2 : xs.length = 2 := hx
  have g0 := hg 0 _ rfl
  have g1 := hg 1 _ rfl
  clear hg hl hx h
  match cs, hl6, xs, hx2 with
  | [v0, v1, v2, v3, v4, v5], _, [y0, y1], _ =>
    obtain ⟨s, e0, -, w0⟩ := DataW.trod_string Tryz.underlying9 (x := y0) g0
    obtain ⟨ys, m, -, -, -, hy, hf⟩ := DataW.trod_struct Tryz.underlying45 (x := y1) g1
    have hy5 : ys.length = 5 := hy
    have f0 := hf 0 _ rfl
    have f1 := hf 1 _ rfl
    have f2 := hf 2 _ rfl
    have f3 := hf 3 _ rfl
    have f4 := hf 4 _ rfl
    clear hf hy g0 g1
    match ys, hy5 with
    | [z0, z1, z2, z3, z4], _ =>
      obtain ⟨k, e1, -, -⟩ := DataW.trod_int Tryz.underlying3 (x := z0) f0
      obtain ⟨q, e2, -, -⟩ := DataW.trod_int Tryz.underlying2 (x := z1) f1
      obtain ⟨f, e3, -⟩ := trod_flo (x := z2) f2
      obtain ⟨t, e4, -, -⟩ := DataW.trod_string Tryz.underlying9 (x := z3) f3
      obtain ⟨b, e5, -⟩ := DataW.trod_bool Tryz.underlying4 (x := z4) f4
      have j0 : v0 = .string s := List.cons.inj e0 |>.1
      have j1 : v1 = .int .i64 k := List.cons.inj e1 |>.1
      have j2 : v2 = .int .i64 q := List.cons.inj e2 |>.1
      have j3 : v3 = .float .f64 f := List.cons.inj e3 |>.1
      have j4 : v4 = .string t := List.cons.inj e4 |>.1
      have j5 : v5 = .bool b := List.cons.inj e5 |>.1
      exact ⟨⟨s, ⟨k, q, f, t, b⟩⟩, by rw [j0, j1, j2, j3, j4, j5]; rfl, w0⟩

/-- A row of attributes that came in. -/
structure IsAtts (w : World) (A : Option Addr) (n c : Nat) (l : List Att) : Prop where
  reads : Ats w A n l
  room : n ≤ c
  none_ : A = none → n = 0 ∧ c = 0
  spot : ∀ x, A = some x → x.spot = none ∧ x.block < w.heap.size

theorem slice_at {w : World} {r : Reach} {base : Nat} {t e : TypeId} {a : Addr} {n c : Nat} (ht : Tryz.prog.underlying t = some (.slice e)) (h : Value.okWide Tryz.prog w r base t (.slice (some a) n c)) : a.spot = none ∧ a.block < w.heap.size := by
  simp only [Value.okWide, ht, Cell.okWide, Cell.ok] at h
  refine ⟨h.2.2.2.1, ?_⟩
  obtain ⟨row, cells, hs, -⟩ := h.2.2.2.2
  unfold World.shape? at hs
  rcases Nat.lt_or_ge a.block w.heap.size with hl | hl
  · exact hl
  · rw [Array.getElem?_eq_none hl] at hs; cases hs
theorem row_of (w : World) (g o : Nat) : ∀ n : Nat, (∀ i, i < n → ∃ a : Att, (∀ j u, a.cells[j]? = some u → w.cell? ⟨g, o + (i * 6 + j), none⟩ = some u) ∧ a.name.size ≤ maxLen) →
    ∃ l : List Att, l.length = n ∧ (∀ a, a ∈ l → a.name.size ≤ maxLen) ∧ ∀ j u, (flat l)[j]? = some u → w.cell? ⟨g, o + j, none⟩ = some u
  | 0, _ => ⟨[], rfl, by simp, by simp⟩
  | n + 1, h => by
    obtain ⟨l, hl, hz, hc⟩ := row_of w g o n (fun i hi => h i (by omega))
    obtain ⟨a, ha, hza⟩ := h n (by omega)
    refine ⟨l ++ [a], by simp [hl], ?_, ?_⟩
    · intro x hx
      rcases List.mem_append.1 hx with hx | hx
      · exact hz x hx
      · rw [List.mem_singleton.1 hx]; exact hza
    · intro j u hj
      have hs : flat (l ++ [a]) = flat l ++ a.cells := by unfold flat; rw [List.flatMap_append]; simp
      have hlen : (flat l).length = n * 6 := by rw [flat_len _ Att.cells_len, hl]
      rw [hs] at hj
      rcases Nat.lt_or_ge j (n * 6) with h1 | h1
      · rw [List.getElem?_append_left (by omega)] at hj
        exact hc j u hj
      · rw [List.getElem?_append_right (by omega), hlen] at hj
        have := ha (j - n * 6) u hj
        rw [show o + (n * 6 + (j - n * 6)) = o + j by omega] at this
        exact this

theorem open_atts {H : Type} {enc : TypeId × Value → H} {w : World} {base b0 : Nat} {spare : Nat → Bool} {held : Bool} {r : Reach} {v : Value} {d : DataW H} {p : List MemPlace}
    (hv : Value.okWide Tryz.prog w r b0 23 v) (h : DataW.Trod enc Tryz.prog w base spare held 23 v d p) : ∃ A n c l, v = .slice A n c ∧ IsAtts w A n c l := by
  obtain ⟨A, n, c, rfl⟩ := okWide_slice Tryz.underlying23 hv
  refine ⟨A, n, c, ?_⟩
  obtain ⟨fuel, hf⟩ := h
  rcases open_slice Tryz.underlying23 hf with ⟨h0, -⟩ | ⟨a, len, cap, m, q, D, Pl, hcs, -, hl, hm, hmm, -, hi⟩
  · simp [Value.cells] at h0
    obtain ⟨rfl, rfl, rfl⟩ := h0
    exact ⟨[], rfl, ⟨Rs.nil _ _ _, by simp, by omega⟩, by omega, (fun _ => ⟨rfl, rfl⟩), fun x e => by cases e⟩
  · simp [Value.cells] at hcs
    obtain ⟨rfl, rfl, rfl⟩ := hcs
    obtain ⟨hsp, hlt⟩ := slice_at Tryz.underlying23 hv
    obtain ⟨g, o, sp⟩ := a
    cases hsp
    have hnm : n ≤ m := by rw [hmm]; split <;> omega
    have hC : Tryz.prog.cellsOf 54 = 6 := by kernel_rfl
    rw [hC] at hi
    obtain ⟨l, hl1, hz, hc⟩ := row_of w g o n (fun i hin => by
      obtain ⟨cs', hc', ht'⟩ := hi i (by omega)
      obtain ⟨a, rfl, hza⟩ := trod_att ht'
      refine ⟨a, fun j u hj => ?_, hza⟩
      obtain ⟨-, -, hat⟩ := World.cells?_some hc'
      have hj6 : j < 6 := (List.getElem?_eq_some_iff.1 hj).1
      have := hat j hj6
      rw [hj] at this
      rw [← Nat.add_assoc]
      rw [show ((⟨g, o, none⟩ : Addr).add (i * 6)).add j = ⟨g, o + i * 6 + j, none⟩ by unfold Addr.add; split <;> split <;> simp_all] at this
      exact this)
    refine ⟨l, rfl, ⟨⟨by rw [flat_len _ Att.cells_len, hl1], .inr ⟨g, o, rfl, hc⟩⟩, fun a ha => by have := hz a ha; unfold maxLen at this; omega, by unfold maxLen at hm; omega⟩, hl, (fun e => by cases e), fun x e => by cases e; exact ⟨rfl, hlt⟩⟩
end Go.Proofs.YtfbfbajccphkoaaGreat
