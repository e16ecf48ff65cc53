
/- Package value: its calls' contracts. -/
import Derived.Test.YtgenmebmdpnjhaaMath
namespace Go.Proofs.Ytgenmebmdpnjhaa
open Go.RowKit

/-- A value of package api: Kind, N, X, S, B. -/
structure Val where
  k : Int
  n : Int
  x : Nat
  s : ByteArray
  b : Bool

abbrev vl (k n : Int) (x : Nat) (s : ByteArray) (b : Bool) : Value := .agg #[.int .i64 k, .int .i64 n, .float .f64 x, .string s, .bool b]

namespace Vl
/-- Texts by their bytes. -/
def txt (a b : ByteArray) : Int := if Op.bytesLess a.toList b.toList then -1 else if a.toList == b.toList then 0 else 1
/-- false below true. -/
def bl (a b : Bool) : Int := if a == b then 0 else if b then -1 else 1
def cmp (a b : Val) : Int :=
  if a.k = 1 ∧ b.k = 1 then Fl.sgn a.n b.n
  else if a.k = 1 ∧ b.k = 2 then Fl.cmpInt a.n b.x
  else if a.k = 2 ∧ b.k = 1 then -Fl.cmpInt b.n a.x
  else if a.k = 2 ∧ b.k = 2 then Fl.cmp a.x b.x
  else if a.k = 3 ∧ b.k = 3 then txt a.s b.s
  else if a.k = 4 ∧ b.k = 4 then bl a.b b.b
  else 0
def ok (a b : Val) : Bool :=
  if a.k = 1 ∧ b.k = 1 then true
  else if a.k = 1 ∧ b.k = 2 then !Fl.nan b.x
  else if a.k = 2 ∧ b.k = 1 then !Fl.nan a.x
  else if a.k = 2 ∧ b.k = 2 then Fl.cmpOk a.x b.x
  else if a.k = 3 ∧ b.k = 3 then true
  else if a.k = 4 ∧ b.k = 4 then true
  else false
def is (a b : Val) : Bool := ok a b && decide (cmp a b = 0)
def same (a b : Val) : Bool := decide (a.k = b.k) && decide (a.n = b.n) && Fl.same a.x b.x && (a.s.toList == b.s.toList) && (a.b == b.b)
/-- A float at 0. -/
def zx (x : Nat) : Bool := decide (FloatKind.f64.format.order x 0 = some .eq)
def zs (s : ByteArray) : Bool := decide (s.toList = [])
def right (a : Val) : Bool :=
  if a.k = 1 then zx a.x && zs a.s && !a.b
  else if a.k = 2 then decide (a.n = 0) && zs a.s && !a.b
  else if a.k = 3 then decide (a.n = 0) && zx a.x && !a.b && decide (a.s.size ≤ 12)
  else if a.k = 4 then decide (a.n = 0) && zx a.x && zs a.s
  else false
theorem less_irrefl : ∀ l : List UInt8, Op.bytesLess l l = false
  | [] => rfl
  | a :: l => by simp [Op.bytesLess, less_irrefl l]
theorem size_nil {s : ByteArray} (h : s.toList = []) : s.size = 0 := by
  have : s.toList.length = s.size := by rw [ByteArray.toList_eq]; cases s; rfl
  rw [h] at this
  exact this.symm
end Vl

theorem vint_any (n : Int) (w : World) : Calls Try.prog 83 #[.int .i64 n] w fun e w' => e = .returned (vl 1 n 0 ⟨#[]⟩ false) ∧ Below w.heap.size w w' := by
  have hst := store_float
  go_enter Try.func83, Try.ntmps83
  go_wp2
  refine bodyPost_ret (results_cell_row rfl _ _ _ _ _ _ _ rfl (heap_alloc_new _ _) Try.underlying41 rfl (by kernel_rfl)) rfl ?_
  exact ⟨rfl, (Below.refl _ _).alloc (Nat.le_refl _) _⟩
theorem vfloat_any (x : Nat) (w : World) : Calls Try.prog 85 #[.float .f64 x] w fun e w' => e = .returned (vl 2 0 x ⟨#[]⟩ false) ∧ Below w.heap.size w w' := by
  have hst := store_float
  go_enter Try.func85, Try.ntmps85
  go_wp2
  refine bodyPost_ret (results_cell_row rfl _ _ _ _ _ _ _ rfl (heap_alloc_new _ _) Try.underlying41 rfl (by kernel_rfl)) rfl ?_
  exact ⟨rfl, (Below.refl _ _).alloc (Nat.le_refl _) _⟩
theorem vtext_any (s : ByteArray) (w : World) : Calls Try.prog 87 #[.string s] w fun e w' => e = .returned (vl 3 0 0 s false) ∧ Below w.heap.size w w' := by
  have hst := store_float
  go_enter Try.func87, Try.ntmps87
  go_wp2
  refine bodyPost_ret (results_cell_row rfl _ _ _ _ _ _ _ rfl (heap_alloc_new _ _) Try.underlying41 rfl (by kernel_rfl)) rfl ?_
  exact ⟨rfl, (Below.refl _ _).alloc (Nat.le_refl _) _⟩
theorem vbool_any (b : Bool) (w : World) : Calls Try.prog 6 #[.bool b] w fun e w' => e = .returned (vl 4 0 0 ⟨#[]⟩ b) ∧ Below w.heap.size w w' := by
  have hst := store_float
  go_enter Try.func6, Try.ntmps6
  go_wp2
  refine bodyPost_ret (results_cell_row rfl _ _ _ _ _ _ _ rfl (heap_alloc_new _ _) Try.underlying41 rfl (by kernel_rfl)) rfl ?_
  exact ⟨rfl, (Below.refl _ _).alloc (Nat.le_refl _) _⟩

namespace Vl
/-- The pairs of Kinds. -/
inductive Ways (a b : Int) : Prop where
  | ii (ha : a = 1) (hb : b = 1)
  | ix (ha : a = 1) (hb : b = 2)
  | xi (ha : a = 2) (hb : b = 1)
  | xx (ha : a = 2) (hb : b = 2)
  | ss (ha : a = 3) (hb : b = 3)
  | bb (ha : a = 4) (hb : b = 4)
  | ino (ha : a = 1) (h1 : ¬ b = 1) (h2 : ¬ b = 2)
  | xno (ha : a = 2) (h1 : ¬ b = 1) (h2 : ¬ b = 2)
  | sno (ha : a = 3) (h1 : ¬ b = 3)
  | bno (ha : a = 4) (h1 : ¬ b = 4)
  | no (h1 : ¬ a = 1) (h2 : ¬ a = 2) (h3 : ¬ a = 3) (h4 : ¬ a = 4)
theorem ways (a b : Int) : Ways a b := by
  by_cases h1 : a = 1
  · by_cases g1 : b = 1
    · exact .ii h1 g1
    · by_cases g2 : b = 2
      · exact .ix h1 g2
      · exact .ino h1 g1 g2
  · by_cases h2 : a = 2
    · by_cases g1 : b = 1
      · exact .xi h2 g1
      · by_cases g2 : b = 2
        · exact .xx h2 g2
        · exact .xno h2 g1 g2
    · by_cases h3 : a = 3
      · by_cases g : b = 3
        · exact .ss h3 g
        · exact .sno h3 g
      · by_cases h4 : a = 4
        · by_cases g : b = 4
          · exact .bb h4 g
          · exact .bno h4 g
        · exact .no h1 h2 h3 h4
end Vl

theorem two_new (w : World) (A B : Obj) : Below w.heap.size w ((w.alloc A).alloc B) := ((Below.refl _ _).alloc (Nat.le_refl _) _).alloc (by simp) _
theorem Vl.cmpInt_range (n : Int) (x : Nat) : -1 ≤ Fl.cmpInt n x ∧ Fl.cmpInt n x ≤ 1 := by
  unfold Fl.cmpInt Fl.sgn
  split
  · omega
  · split
    · omega
    · split <;> omega

end Go.Proofs.Ytgenmebmdpnjhaa
