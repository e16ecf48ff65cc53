
/- Frames as memory holds them; the words Same. -/
import Derived.Test.YtgenmebmdpnjhaaGreatG5
import Derived.Test.YtgenmebmdpnjhaaGreatG4
import Derived.Test.YtgenmebmdpnjhaaGreatWireEq
import Derived.Test.YtgenmebmdpnjhaaGreatG1b
namespace Go.Proofs.YtgenmebmdpnjhaaGreat
open Go.RowKit
set_option linter.unusedVariables false

/-- A Stamp. -/
structure St where
  atom : Int
  n : Int
def St.cells (s : St) : List Value := [.int .i64 s.atom, .int .i64 s.n]
theorem St.cells_len (s : St) : s.cells.length = 2 := rfl
abbrev stflat (l : List St) : List Value := l.flatMap St.cells
/-- A slice reads as a row of Stamps. -/
structure Sts (w : World) (A : Option Addr) (n : Nat) (l : List St) : Prop where
  row : Rs 2 w A n (stflat l)
  few : n ≤ 9223372036854775807
theorem Sts.len {w : World} {A : Option Addr} {n : Nat} {l : List St} (h : Sts w A n l) : l.length = n := by
  have := h.row.1
  rw [flat_len _ St.cells_len] at this
  omega
theorem Sts.later {w w' : World} {A : Option Addr} {n : Nat} {l : List St} (h : Sts w A n l) (k : Below w.heap.size w w') : Sts w' A n l := ⟨h.row.later k, h.few⟩
theorem Sts.kept {S : Nat → Prop} {w w' : World} {A : Option Addr} {n : Nat} {l : List St} (h : Sts w A n l) (k : Kept S w w') (hs : ∀ x, A = some x → ¬ S x.block) : Sts w' A n l := ⟨h.row.kept k hs, h.few⟩
theorem Sts.cells {w wr : World} {A : Option Addr} {n : Nat} {l : List St} (h : Sts w A n l) (hb : Below w.heap.size w wr) {k : Nat} (hk : k < l.length) :
    ∃ g o x, A = some ⟨g, o, none⟩ ∧ l[k]? = some x ∧ ∀ j u, x.cells[j]? = some u → wr.cell? ⟨g, o + k * 2 + j, none⟩ = some u := by
  obtain ⟨x, hx⟩ : ∃ x, l[k]? = some x := ⟨_, List.getElem?_eq_getElem hk⟩
  have hp : 0 < (stflat l).length := by rw [flat_len _ St.cells_len]; omega
  rcases h.row.2 with h1 | ⟨g, o, rfl, hc⟩
  · rw [h1] at hp; simp at hp
  · refine ⟨g, o, x, rfl, hx, fun j u hj => ?_⟩
    have hlt : j < 2 := (List.getElem?_eq_some_iff.1 hj).1
    have h0 := hc (k * 2 + j) u (by rw [flat_get _ St.cells_len l k j x hx hlt]; exact hj)
    rw [← Nat.add_assoc] at h0
    exact (hb.cell (cell_lt h0)).trans h0
abbrev stbox (s : St) : Obj := .cells #[.int .i64 s.atom, .int .i64 s.n] 68
theorem st_size : (Tryz.prog.info? 68).map (·.size) = some 2 := by kernel_rfl
/-- A Sub, and where its Filter lies. -/
structure Sb where
  c : Int
  b : Int
  n : Int
  f : Ft
def Sb.cells (s : Sb) : List Value := [.int .i64 s.c, .int .i64 s.b, .int .i64 s.n, .slice s.f.A s.f.l.length s.f.c]
theorem Sb.cells_len (s : Sb) : s.cells.length = 4 := rfl
abbrev sbv (s : Sb) : Value := .agg #[.int .i64 s.c, .int .i64 s.b, .int .i64 s.n, .slice s.f.A s.f.l.length s.f.c]
abbrev sbbox (s : Sb) : Obj := .cells #[.int .i64 s.c, .int .i64 s.b, .int .i64 s.n, .slice s.f.A s.f.l.length s.f.c] 33
/-- A Change of it. -/
abbrev chv (g : Bool) (s : Sb) : Value := .agg #[.bool g, .int .i64 s.c, .int .i64 s.b, .int .i64 s.n, .slice s.f.A s.f.l.length s.f.c]
abbrev sbflat (l : List Sb) : List Value := l.flatMap Sb.cells
theorem Sb.one (s : Sb) : ∀ u ∈ s.cells, u.oneCell' = true := by
  intro u hu
  simp only [Sb.cells, List.mem_cons, List.not_mem_nil, or_false] at hu
  rcases hu with rfl | rfl | rfl | rfl <;> rfl
/-- A slice reads as a row of Subs. -/
structure Sbs (w : World) (A : Option Addr) (n : Nat) (l : List Sb) : Prop where
  row : Rs 4 w A n (sbflat l)
  each : ∀ s, s ∈ l → IsFt w s.f
  few : n ≤ 9223372036854775807
theorem Sbs.len {w : World} {A : Option Addr} {n : Nat} {l : List Sb} (h : Sbs w A n l) : l.length = n := by
  have := h.row.1
  rw [flat_len _ Sb.cells_len] at this
  omega
theorem Sbs.later {w w' : World} {A : Option Addr} {n : Nat} {l : List Sb} (h : Sbs w A n l) (k : Below w.heap.size w w') : Sbs w' A n l := ⟨h.row.later k, fun s hs => (h.each s hs).later k, h.few⟩
theorem Sbs.cells {w wr : World} {A : Option Addr} {n : Nat} {l : List Sb} (h : Sbs w A n l) (hb : Below w.heap.size w wr) {k : Nat} (hk : k < l.length) :
    ∃ g o x, A = some ⟨g, o, none⟩ ∧ l[k]? = some x ∧ IsFt wr x.f ∧ ∀ j u, x.cells[j]? = some u → wr.cell? ⟨g, o + k * 4 + j, none⟩ = some u := by
  obtain ⟨x, hx⟩ : ∃ x, l[k]? = some x := ⟨_, List.getElem?_eq_getElem hk⟩
  have hp : 0 < (sbflat l).length := by rw [flat_len _ Sb.cells_len]; omega
  rcases h.row.2 with h1 | ⟨g, o, rfl, hc⟩
  · rw [h1] at hp; simp at hp
  · refine ⟨g, o, x, rfl, hx, (h.each x (List.mem_of_getElem? hx)).later hb, fun j u hj => ?_⟩
    have hlt : j < 4 := (List.getElem?_eq_some_iff.1 hj).1
    have h0 := hc (k * 4 + j) u (by rw [flat_get _ Sb.cells_len l k j x hx hlt]; exact hj)
    rw [← Nat.add_assoc] at h0
    exact (hb.cell (cell_lt h0)).trans h0
/-- An Event, and where its Attrs and Stamps lie. -/
structure Ev where
  c : Int
  b : Int
  s : Int
  e : Int
  a : Int
  A : Option Addr
  ca : Nat
  l : List Att
  B : Option Addr
  cb : Nat
  t : List St
def Ev.cells (e : Ev) : List Value := [.int .i64 e.c, .int .i64 e.b, .int .i64 e.s, .int .i64 e.e, .int .i64 e.a, .slice e.A e.l.length e.ca, .slice e.B e.t.length e.cb]
abbrev evv (e : Ev) : Value := .agg #[.int .i64 e.c, .int .i64 e.b, .int .i64 e.s, .int .i64 e.e, .int .i64 e.a, .slice e.A e.l.length e.ca, .slice e.B e.t.length e.cb]
abbrev evbox (e : Ev) : Obj := .cells #[.int .i64 e.c, .int .i64 e.b, .int .i64 e.s, .int .i64 e.e, .int .i64 e.a, .slice e.A e.l.length e.ca, .slice e.B e.t.length e.cb] 30
structure IsEv (w : World) (e : Ev) : Prop where
  l : Ats w e.A e.l.length e.l
  fit : ∀ x, x ∈ e.l → Fit x.v
  t : Sts w e.B e.t.length e.t
  none_ : e.A = none → e.l.length = 0 ∧ e.ca = 0
  noneb : e.B = none → e.t.length = 0 ∧ e.cb = 0
theorem IsEv.later {w w' : World} {e : Ev} (h : IsEv w e) (k : Below w.heap.size w w') : IsEv w' e := ⟨h.l.later k, h.fit, h.t.later k, h.none_, h.noneb⟩
/-- A Frame. -/
structure Fr where
  k : Int
  tb : Int
  fm : Int
  cl : Int
  sq : Int
  ep : Int
  e : Ev
  g : Bool
  s : Sb
  A : Option Addr
  c : Nat
  l : List Sb
def Fr.cells (f : Fr) : List Value := [.int .i64 f.k, .int .i64 f.tb, .int .i64 f.fm, .int .i64 f.cl, .int .i64 f.sq, .int .i64 f.ep,
  .int .i64 f.e.c, .int .i64 f.e.b, .int .i64 f.e.s, .int .i64 f.e.e, .int .i64 f.e.a, .slice f.e.A f.e.l.length f.e.ca, .slice f.e.B f.e.t.length f.e.cb,
  .bool f.g, .int .i64 f.s.c, .int .i64 f.s.b, .int .i64 f.s.n, .slice f.s.f.A f.s.f.l.length f.s.f.c, .slice f.A f.l.length f.c]
abbrev frv (f : Fr) : Value := .agg #[.int .i64 f.k, .int .i64 f.tb, .int .i64 f.fm, .int .i64 f.cl, .int .i64 f.sq, .int .i64 f.ep, .int .i64 f.e.c, .int .i64 f.e.b, .int .i64 f.e.s, .int .i64 f.e.e, .int .i64 f.e.a, .slice f.e.A f.e.l.length f.e.ca, .slice f.e.B f.e.t.length f.e.cb, .bool f.g, .int .i64 f.s.c, .int .i64 f.s.b, .int .i64 f.s.n, .slice f.s.f.A f.s.f.l.length f.s.f.c, .slice f.A f.l.length f.c]
abbrev frbox (f : Fr) : Obj := .cells #[.int .i64 f.k, .int .i64 f.tb, .int .i64 f.fm, .int .i64 f.cl, .int .i64 f.sq, .int .i64 f.ep, .int .i64 f.e.c, .int .i64 f.e.b, .int .i64 f.e.s, .int .i64 f.e.e, .int .i64 f.e.a, .slice f.e.A f.e.l.length f.e.ca, .slice f.e.B f.e.t.length f.e.cb, .bool f.g, .int .i64 f.s.c, .int .i64 f.s.b, .int .i64 f.s.n, .slice f.s.f.A f.s.f.l.length f.s.f.c, .slice f.A f.l.length f.c] 38
structure IsFr (w : World) (f : Fr) : Prop where
  e : IsEv w f.e
  s : IsFt w f.s.f
  l : Sbs w f.A f.l.length f.l
  none_ : f.A = none → f.l.length = 0 ∧ f.c = 0
theorem IsFr.later {w w' : World} {f : Fr} (h : IsFr w f) (k : Below w.heap.size w w') : IsFr w' f := ⟨h.e.later k, h.s.later k, h.l.later k, h.none_⟩

/-- The cells of a Sub, of an Event, of a Frame, in each later world. -/
theorem sb_laters {wr : World} {g o : Nat} {y : Sb} (h : ∀ j u, y.cells[j]? = some u → wr.cell? ⟨g, o + j, none⟩ = some u) :
    (∀ x : Later wr, x.at_.cell? ⟨g, o, none⟩ = some (.int .i64 y.c)) ∧ (∀ x : Later wr, x.at_.cell? ⟨g, o + 1, none⟩ = some (.int .i64 y.b)) ∧ (∀ x : Later wr, x.at_.cell? ⟨g, o + 2, none⟩ = some (.int .i64 y.n)) ∧ (∀ x : Later wr, x.at_.cell? ⟨g, o + 3, none⟩ = some (.slice y.f.A y.f.l.length y.f.c)) :=
  ⟨later_cell (h 0 _ rfl), later_cell (h 1 _ rfl), later_cell (h 2 _ rfl), later_cell (h 3 _ rfl)⟩
theorem ev_laters {wr : World} {g o : Nat} {y : Ev} (h : ∀ j u, y.cells[j]? = some u → wr.cell? ⟨g, o + j, none⟩ = some u) :
    (∀ x : Later wr, x.at_.cell? ⟨g, o, none⟩ = some (.int .i64 y.c)) ∧ (∀ x : Later wr, x.at_.cell? ⟨g, o + 1, none⟩ = some (.int .i64 y.b)) ∧ (∀ x : Later wr, x.at_.cell? ⟨g, o + 2, none⟩ = some (.int .i64 y.s)) ∧ (∀ x : Later wr, x.at_.cell? ⟨g, o + 3, none⟩ = some (.int .i64 y.e)) ∧ (∀ x : Later wr, x.at_.cell? ⟨g, o + 4, none⟩ = some (.int .i64 y.a)) ∧
    (∀ x : Later wr, x.at_.cell? ⟨g, o + 5, none⟩ = some (.slice y.A y.l.length y.ca)) ∧ (∀ x : Later wr, x.at_.cell? ⟨g, o + 6, none⟩ = some (.slice y.B y.t.length y.cb)) :=
  ⟨later_cell (h 0 _ rfl), later_cell (h 1 _ rfl), later_cell (h 2 _ rfl), later_cell (h 3 _ rfl), later_cell (h 4 _ rfl), later_cell (h 5 _ rfl), later_cell (h 6 _ rfl)⟩
theorem fr_laters {wr : World} {g : Nat} {y : Fr} (h : ∀ j u, y.cells[j]? = some u → wr.cell? ⟨g, 0 + j, none⟩ = some u) :
    (∀ x : Later wr, x.at_.cell? ⟨g, 0, none⟩ = some (.int .i64 y.k)) ∧ (∀ x : Later wr, x.at_.cell? ⟨g, 1, none⟩ = some (.int .i64 y.tb)) ∧ (∀ x : Later wr, x.at_.cell? ⟨g, 2, none⟩ = some (.int .i64 y.fm)) ∧ (∀ x : Later wr, x.at_.cell? ⟨g, 3, none⟩ = some (.int .i64 y.cl)) ∧ (∀ x : Later wr, x.at_.cell? ⟨g, 4, none⟩ = some (.int .i64 y.sq)) ∧ (∀ x : Later wr, x.at_.cell? ⟨g, 5, none⟩ = some (.int .i64 y.ep)) ∧
    (∀ x : Later wr, x.at_.cell? ⟨g, 6, none⟩ = some (.int .i64 y.e.c)) ∧ (∀ x : Later wr, x.at_.cell? ⟨g, 7, none⟩ = some (.int .i64 y.e.b)) ∧ (∀ x : Later wr, x.at_.cell? ⟨g, 8, none⟩ = some (.int .i64 y.e.s)) ∧ (∀ x : Later wr, x.at_.cell? ⟨g, 9, none⟩ = some (.int .i64 y.e.e)) ∧ (∀ x : Later wr, x.at_.cell? ⟨g, 10, none⟩ = some (.int .i64 y.e.a)) ∧
    (∀ x : Later wr, x.at_.cell? ⟨g, 11, none⟩ = some (.slice y.e.A y.e.l.length y.e.ca)) ∧ (∀ x : Later wr, x.at_.cell? ⟨g, 12, none⟩ = some (.slice y.e.B y.e.t.length y.e.cb)) ∧
    (∀ x : Later wr, x.at_.cell? ⟨g, 13, none⟩ = some (.bool y.g)) ∧ (∀ x : Later wr, x.at_.cell? ⟨g, 14, none⟩ = some (.int .i64 y.s.c)) ∧ (∀ x : Later wr, x.at_.cell? ⟨g, 15, none⟩ = some (.int .i64 y.s.b)) ∧ (∀ x : Later wr, x.at_.cell? ⟨g, 16, none⟩ = some (.int .i64 y.s.n)) ∧ (∀ x : Later wr, x.at_.cell? ⟨g, 17, none⟩ = some (.slice y.s.f.A y.s.f.l.length y.s.f.c)) ∧ (∀ x : Later wr, x.at_.cell? ⟨g, 18, none⟩ = some (.slice y.A y.l.length y.c)) := by
  have h' : ∀ j u, y.cells[j]? = some u → wr.cell? ⟨g, j, none⟩ = some u := fun j u hj => by have := h j u hj; rw [Nat.zero_add] at this; exact this
  exact ⟨later_cell (h' 0 _ rfl), later_cell (h' 1 _ rfl), later_cell (h' 2 _ rfl), later_cell (h' 3 _ rfl), later_cell (h' 4 _ rfl), later_cell (h' 5 _ rfl), later_cell (h' 6 _ rfl), later_cell (h' 7 _ rfl), later_cell (h' 8 _ rfl), later_cell (h' 9 _ rfl), later_cell (h' 10 _ rfl), later_cell (h' 11 _ rfl), later_cell (h' 12 _ rfl), later_cell (h' 13 _ rfl), later_cell (h' 14 _ rfl), later_cell (h' 15 _ rfl), later_cell (h' 16 _ rfl), later_cell (h' 17 _ rfl), later_cell (h' 18 _ rfl)⟩

namespace Wr
def stsame : List St → List St → Bool
  | [], [] => true
  | a :: l, b :: m => ((a.atom == b.atom) && (a.n == b.n)) && stsame l m
  | _, _ => false
def sbsame (a b : Sb) : Bool := (a.c == b.c) && ((a.b == b.b) && ((a.n == b.n) && Fi.same a.f.l b.f.l))
def sbssame : List Sb → List Sb → Bool
  | [], [] => true
  | a :: l, b :: m => sbsame a b && sbssame l m
  | _, _ => false
def evints (a b : Ev) : Bool := (a.c == b.c) && ((a.b == b.b) && ((a.s == b.s) && ((a.e == b.e) && (a.a == b.a))))
def evsame (a b : Ev) : Bool := evints a b && (At.same a.l b.l && stsame a.t b.t)
def frints (a b : Fr) : Bool := (a.k == b.k) && ((a.tb == b.tb) && ((a.fm == b.fm) && ((a.cl == b.cl) && ((a.sq == b.sq) && (a.ep == b.ep)))))
def same (a b : Fr) : Bool := frints a b && (evsame a.e b.e && ((a.g == b.g) && (sbsame a.s b.s && sbssame a.l b.l)))
theorem stsame_len : ∀ {l m : List St}, stsame l m = true → l.length = m.length
  | [], [], _ => rfl
  | a :: l, b :: m, h => by simp only [stsame, Bool.and_eq_true] at h; simp [stsame_len h.2]
  | [], _ :: _, h => by simp [stsame] at h
  | _ :: _, [], h => by simp [stsame] at h
theorem st_other {l m : List St} (h : ¬ l.length = m.length) : stsame l m = false := by
  cases hs : stsame l m
  · rfl
  · exact absurd (stsame_len hs) h
theorem st_next {l m : List St} {k : Nat} {a b : St} (h : l[k]? = some a) (g : m[k]? = some b) (hp : stsame l m = stsame (l.drop k) (m.drop k)) : stsame l m = (((a.atom == b.atom) && (a.n == b.n)) && stsame (l.drop (k + 1)) (m.drop (k + 1))) := by
  rw [hp, drop_at h, drop_at g, stsame]
theorem st_end {l m : List St} {k : Nat} (h : ¬ k < l.length) (he : m.length = l.length) (hp : stsame l m = stsame (l.drop k) (m.drop k)) : stsame l m = true := by
  rw [hp, List.drop_eq_nil_of_le (by omega), List.drop_eq_nil_of_le (by omega), stsame]
theorem sbssame_len : ∀ {l m : List Sb}, sbssame l m = true → l.length = m.length
  | [], [], _ => rfl
  | a :: l, b :: m, h => by simp only [sbssame, Bool.and_eq_true] at h; simp [sbssame_len h.2]
  | [], _ :: _, h => by simp [sbssame] at h
  | _ :: _, [], h => by simp [sbssame] at h
theorem sb_other {l m : List Sb} (h : ¬ l.length = m.length) : sbssame l m = false := by
  cases hs : sbssame l m
  · rfl
  · exact absurd (sbssame_len hs) h
theorem sb_next {l m : List Sb} {k : Nat} {a b : Sb} (h : l[k]? = some a) (g : m[k]? = some b) (hp : sbssame l m = sbssame (l.drop k) (m.drop k)) : sbssame l m = (sbsame a b && sbssame (l.drop (k + 1)) (m.drop (k + 1))) := by
  rw [hp, drop_at h, drop_at g, sbssame]
theorem sb_end {l m : List Sb} {k : Nat} (h : ¬ k < l.length) (he : m.length = l.length) (hp : sbssame l m = sbssame (l.drop k) (m.drop k)) : sbssame l m = true := by
  rw [hp, List.drop_eq_nil_of_le (by omega), List.drop_eq_nil_of_le (by omega), sbssame]
end Wr
theorem sb_size : (Tryz.prog.info? 33).map (·.size) = some 4 := by kernel_rfl
end Go.Proofs.YtgenmebmdpnjhaaGreat
