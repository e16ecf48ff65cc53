
/- FilterAll: the walk. -/
import Derived.Test.YtfbfbajccphkoaaGreatFeedFilter
import Derived.Test.YtfbfbajccphkoaaGreatFilKnown
import Derived.Test.YtfbfbajccphkoaaGreatAttFacts
import Derived.Test.YtfbfbajccphkoaaGreatPrdFacts
namespace Go.Proofs.YtfbfbajccphkoaaGreat
open Go.RowKit
set_option linter.unusedVariables false

namespace Pd
theorem sames_self : ∀ l : List Val, sames l l = true
  | [] => rfl
  | a :: l => by rw [sames, sames_self l, Vl.same_self]; rfl
theorem sameT_self (p : Prd) : sameT p p = true := by unfold sameT; rw [Vl.same_self, Vl.same_self, sames_self]; simp
theorem same_self (p : Prd) : same p p = true := by unfold same; rw [sameT_self]; simp
theorem implies_self (p : Prd) : implies p p = right p := by
  cases h : right p
  · exact imp_wrong (.inl h)
  · exact imp_yes h h (.inr (.inr (sameT_self p)))
end Pd
namespace Fi
/-- Each test of f is one of g: g is covered. -/
theorem covers_of {f g : List Pt} (hs : ∀ x, x ∈ f → ∃ y, y ∈ g ∧ y.p = x.p) (hr : ∀ x, x ∈ f → Pd.right x.p = true) : covers f g = true := by
  unfold covers
  rw [Bool.or_eq_true]
  right
  rw [List.all_eq_true]
  intro x hx
  obtain ⟨y, hy, he⟩ := hs x hx
  unfold implied
  rw [List.any_eq_true]
  exact ⟨y, hy, by rw [he, Pd.implies_self, hr x hx]; simp⟩
theorem Fine.rights {l : List Pt} (h : Fine l) : ∀ x, x ∈ l → Pd.right x.p = true := fun x hx => by
  obtain ⟨h1, h2⟩ := h.fed x hx
  exact h2.right (names_word _ h1)
theorem takes_more (f : List Pt) (x : Pt) (a : List Att) : takes (f ++ [x]) a = (takes f a && takes1 a x.p) := by unfold takes; rw [List.all_append]; simp
end Fi
theorem Owned.fed {B b : Nat} {w w' : World} {f : Ft} (h : Owned B w f) (k : Kept (· = b) w w') (hb : b < B) : Owned B w' f := ⟨h.row.kept k (ownw_apart h.row hb), fun x hx => (h.sets x hx).kept k (ownw_apart (h.sets x hx) hb)⟩
theorem At.Fed.fits {k : Nat} {l : List Att} (h : At.Fed k l) : ∀ a, a ∈ l → Fit a.v := fun a ha => by
  obtain ⟨h1, h2, h3⟩ := h.num a ha
  exact (Pd.right_small (k := a.v.k) (n := a.v.n) (x := a.v.x) (s := a.v.s) (t := a.v.b) h1 h2 h3 (h.right a ha)).fit
theorem Pd.Fed.fits' {nm : ByteArray} {p : Prd} (h : Pd.Fed nm p) (hn : nm.size ≤ 9223372036854775807) : Pd.Fits p := ⟨by rw [h.name]; exact hn, h.v.fit, h.w.fit, fun a ha => (h.set a ha).fit⟩
theorem slice_one (g L c k : Nat) (hk : k < L) (hc : L ≤ c) : ∀ w : World, (Instr.slice 22 (.slice (some ⟨g, 0, none⟩) L c) (some (.int .i64 (k : Int))) (some (.int .i64 ((k : Int) + 1))) none).run Tryz.prog w = .ok (.slice (some ⟨g, k * 13, none⟩) 1 (c - k)) w := by
  intro w
  obtain ⟨i, hi, -, h1, -⟩ := info_at prd_info
  have he : Tryz.prog.elem 22 = 48 := by kernel_rfl
  rw [run_slice_lh (P := Tryz.prog) w 22 (some ⟨g, 0, none⟩) L c (by rw [he]; exact Tryz.underlying22) .i64 .i64 (k : Int) ((k : Int) + 1) (by omega) (by omega) (by omega), he]
  have e1 : ((k : Int) + 1).toNat = k + 1 := by omega
  have e2 : ¬ c = k := by omega
  simp [sizeOf, typeInfo, hi, h1, sliced, e1, e2, addr_at]
/-- What FilterAll's locals are. -/
structure Als (w wx : World) (Bx : Nat) (F : Ft) (A : Option Addr) (c : Nat) (a : List Att) : Prop where
  own : Owned Bx wx F
  atn : OwnA Bx wx (.slice A a.length c) a
  below : Below w.heap.size w wx
  hB : w.heap.size < Bx
  fits : ∀ p, p ∈ Fi.tests F → Pd.Fits p
  small : ∀ x, x ∈ a → x.name.size ≤ 9223372036854775807
theorem Als.later {w wx wy : World} {Bx : Nat} {F : Ft} {A : Option Addr} {c : Nat} {a : List Att} (h : Als w wx Bx F A c a) (k : Below wx.heap.size wx wy) : Als w wy Bx F A c a :=
  ⟨h.own.later k, h.atn.later k, below_then h.below k, h.hB, h.fits, h.small⟩
theorem Als.fed {w wx wy : World} {Bx : Nat} {F : Ft} {A : Option Addr} {c : Nat} {a : List Att} (h : Als w wx Bx F A c a) (k : Kept (· = w.heap.size) wx wy) : Als w wy Bx F A c a :=
  ⟨h.own.fed k h.hB, h.atn.kept k (own_apart h.atn h.hB), h.below.trans (k.below h.below.size (by intro i hi e; omega)), h.hB, h.fits, h.small⟩
theorem Als.isF {w wx : World} {Bx : Nat} {F : Ft} {A : Option Addr} {c : Nat} {a : List Att} (h : Als w wx Bx F A c a) : IsFt wx F := h.own.is h.fits
theorem Als.ats {w wx : World} {Bx : Nat} {F : Ft} {A : Option Addr} {c : Nat} {a : List Att} (h : Als w wx Bx F A c a) : Ats wx A a.length a := OwnW.ats h.atn h.small
/-- All of it lies below M. -/
structure Lows (M : Nat) (F : Ft) (A : Option Addr) (c : Nat) (a : List Att) : Prop where
  row : ∀ i, F.v.ownBlock = some i → i < M
  sets : ∀ x, x ∈ F.l → ∀ i, (Value.slice x.A x.p.set.length x.c).ownBlock = some i → i < M
  atn : ∀ i, (Value.slice A a.length c).ownBlock = some i → i < M
theorem Als.lows {w wx : World} {Bx : Nat} {F : Ft} {A : Option Addr} {c : Nat} {a : List Att} (h : Als w wx Bx F A c a) : Lows wx.heap.size F A c a :=
  ⟨ownw_lt h.own.row, fun x hx => ownw_lt (h.own.sets x hx), ownw_lt h.atn⟩
theorem Als.apart {S : Nat → Prop} {w wx wy : World} {Bx M : Nat} {F : Ft} {A : Option Addr} {c : Nat} {a : List Att} (h : Als w wx Bx F A c a) (k : Kept S wx wy) (hl : Lows M F A c a) (hS : ∀ i, S i → M ≤ i) (hM : w.heap.size ≤ M) : Als w wy Bx F A c a :=
  ⟨⟨h.own.row.kept k (fun i hi e => by have := hl.row i hi; have := hS i e; omega), fun x hx => (h.own.sets x hx).kept k (fun i hi e => by have := hl.sets x hx i hi; have := hS i e; omega)⟩, h.atn.kept k (fun i hi e => by have := hl.atn i hi; have := hS i e; omega), h.below.trans (k.below h.below.size (by intro i hi e; have := hS i e; omega)), h.hB, h.fits, h.small⟩
theorem Ps.one {w : World} {g n : Nat} {l : List Pt} {k : Nat} {x : Pt} (h : Ps w (some ⟨g, 0, none⟩) n l) (hk : l[k]? = some x) : Ps w (some ⟨g, k * 13, none⟩) 1 [x] := by
  have hl : 0 < l.length := by have := (List.getElem?_eq_some_iff.1 hk).1; omega
  obtain ⟨g', o', e, hc⟩ := h.at hl
  cases e
  refine ⟨⟨rfl, .inr ⟨g, k * 13, rfl, fun j u hj => ?_⟩⟩, fun y hy => by rw [List.mem_singleton.1 hy]; exact h.each x (List.mem_of_getElem? hk), by omega⟩
  have hj' : x.cells[j]? = some u := by simpa [pflat] using hj
  have := hc k x hk j u hj'
  rw [Nat.zero_add] at this
  exact this

end Go.Proofs.YtfbfbajccphkoaaGreat
