
/- Package value: its calls' contracts. -/
import Derived.Test.YtfbfbajccphkoaaGreatBase
namespace Go.Proofs.YtfbfbajccphkoaaGreat
open Go.RowKit

/-- A value of package api: Kind, N, X, S, B. -/
structure Val where
  k : Int
  n : Int
  x : Nat
  s : ByteArray
  b : Bool

abbrev vl (k n : Int) (x : Nat) (s : ByteArray) (b : Bool) : Value := .agg #[.int .i64 k, .int .i64 n, .float .f64 x, .string s, .bool b]

namespace Vl
/-- Texts by their bytes. -/
def txt (a b : ByteArray) : Int := if Op.bytesLess a.toList b.toList then -1 else if a.toList == b.toList then 0 else 1
/-- false below true. -/
def bl (a b : Bool) : Int := if a == b then 0 else if b then -1 else 1
def cmp (a b : Val) : Int :=
  if a.k = 1 ∧ b.k = 1 then Fl.sgn a.n b.n
  else if a.k = 1 ∧ b.k = 2 then Fl.cmpInt a.n b.x
  else if a.k = 2 ∧ b.k = 1 then -Fl.cmpInt b.n a.x
  else if a.k = 2 ∧ b.k = 2 then Fl.cmp a.x b.x
  else if a.k = 3 ∧ b.k = 3 then txt a.s b.s
  else if a.k = 4 ∧ b.k = 4 then bl a.b b.b
  else 0
def ok (a b : Val) : Bool :=
  if a.k = 1 ∧ b.k = 1 then true
  else if a.k = 1 ∧ b.k = 2 then !Fl.nan b.x
  else if a.k = 2 ∧ b.k = 1 then !Fl.nan a.x
  else if a.k = 2 ∧ b.k = 2 then Fl.cmpOk a.x b.x
  else if a.k = 3 ∧ b.k = 3 then true
  else if a.k = 4 ∧ b.k = 4 then true
  else false
def is (a b : Val) : Bool := ok a b && decide (cmp a b = 0)
def same (a b : Val) : Bool := decide (a.k = b.k) && decide (a.n = b.n) && Fl.same a.x b.x && (a.s.toList == b.s.toList) && (a.b == b.b)
/-- A float at 0. -/
def zx (x : Nat) : Bool := decide (FloatKind.f64.format.order x 0 = some .eq)
def zs (s : ByteArray) : Bool := decide (s.toList = [])
def right (a : Val) : Bool :=
  if a.k = 1 then zx a.x && zs a.s && !a.b
  else if a.k = 2 then decide (a.n = 0) && zs a.s && !a.b
  else if a.k = 3 then decide (a.n = 0) && zx a.x && !a.b && decide (a.s.size ≤ 12)
  else if a.k = 4 then decide (a.n = 0) && zx a.x && zs a.s
  else false
theorem less_irrefl : ∀ l : List UInt8, Op.bytesLess l l = false
  | [] => rfl
  | a :: l => by simp [Op.bytesLess, less_irrefl l]
theorem size_nil {s : ByteArray} (h : s.toList = []) : s.size = 0 := by
  have : s.toList.length = s.size := by rw [ByteArray.toList_eq]; cases s; rfl
  rw [h] at this
  exact this.symm
end Vl

theorem vint_any (n : Int) (w : World) : Calls Tryz.prog 71 #[.int .i64 n] w fun e w' => e = .returned (vl 1 n 0 ⟨#[]⟩ false) ∧ Below w.heap.size w w' := by
  have hst := store_float
  go_enter Tryz.func71, Tryz.ntmps71
  go_wp2
  refine bodyPost_ret (results_cell_row rfl _ _ _ _ _ _ _ rfl (heap_alloc_new _ _) Tryz.underlying45 rfl (by kernel_rfl)) rfl ?_
  exact ⟨rfl, (Below.refl _ _).alloc (Nat.le_refl _) _⟩
theorem nani_any (a : Int) (w : World) : Calls Tryz.prog 109 #[.int .i64 a] w fun e w' => e = .returned (.bool false) ∧ w = w' := by
  go_enter Tryz.func109, Tryz.ntmps109
  go_wp2
  go_ret
  exact ⟨rfl, rfl⟩
theorem nans_any (a : ByteArray) (w : World) : Calls Tryz.prog 111 #[.string a] w fun e w' => e = .returned (.bool false) ∧ w = w' := by
  have h : (a.toList == a.toList) = true := by simp
  go_enter Tryz.func111, Tryz.ntmps111
  go_wp2
  go_ret
  exact ⟨rfl, rfl⟩
theorem compi_any (a b : Int) (w : World) : Calls Tryz.prog 98 #[.int .i64 a, .int .i64 b] w fun e w' => e = .returned (.int .i64 (Fl.sgn a b)) ∧ w = w' := by
  rcases Int.lt_trichotomy a b with h | h | h
  · rw [Fl.sgn_lt h]
    go_enter Tryz.func98, Tryz.ntmps98
    go_wp2_with (go_at_call 109; refine (nani_any _ _).mono ?_; rintro e w' ⟨rfl, rfl⟩)
    go_ret
    exact ⟨rfl, rfl⟩
  · rw [Fl.sgn_eq h]
    subst h
    go_enter Tryz.func98, Tryz.ntmps98
    go_wp2_with (go_at_call 109; refine (nani_any _ _).mono ?_; rintro e w' ⟨rfl, rfl⟩)
    go_ret
    exact ⟨rfl, rfl⟩
  · rw [Fl.sgn_gt h]
    go_enter Tryz.func98, Tryz.ntmps98
    go_wp2_with (go_at_call 109; refine (nani_any _ _).mono ?_; rintro e w' ⟨rfl, rfl⟩)
    go_ret
    exact ⟨rfl, rfl⟩
theorem comps_any (a b : ByteArray) (w : World) : Calls Tryz.prog 101 #[.string a, .string b] w fun e w' => e = .returned (.int .i64 (Vl.txt a b)) ∧ w = w' := by
  unfold Vl.txt
  cases h : Op.bytesLess a.toList b.toList
  · cases g : (a.toList == b.toList)
    · go_enter Tryz.func101, Tryz.ntmps101
      go_wp2_with (go_at_call 111; refine (nans_any _ _).mono ?_; rintro e w' ⟨rfl, rfl⟩)
      go_ret
      exact ⟨rfl, rfl⟩
    · go_enter Tryz.func101, Tryz.ntmps101
      go_wp2_with (go_at_call 111; refine (nans_any _ _).mono ?_; rintro e w' ⟨rfl, rfl⟩)
      go_ret
      exact ⟨rfl, rfl⟩
  · go_enter Tryz.func101, Tryz.ntmps101
    go_wp2_with (go_at_call 111; refine (nans_any _ _).mono ?_; rintro e w' ⟨rfl, rfl⟩)
    go_ret
    exact ⟨rfl, rfl⟩
theorem cmpbool_any (a b : Bool) (w : World) : Calls Tryz.prog 102 #[.bool a, .bool b] w fun e w' => e = .returned (.int .i64 (Vl.bl a b)) ∧ w = w' := by
  cases a <;> cases b
  all_goals
    go_enter Tryz.func102, Tryz.ntmps102
    go_wp2
    go_ret
    exact ⟨rfl, rfl⟩

namespace Vl
/-- The pairs of Kinds. -/
inductive Ways (a b : Int) : Prop where
  | ii (ha : a = 1) (hb : b = 1)
  | ix (ha : a = 1) (hb : b = 2)
  | xi (ha : a = 2) (hb : b = 1)
  | xx (ha : a = 2) (hb : b = 2)
  | ss (ha : a = 3) (hb : b = 3)
  | bb (ha : a = 4) (hb : b = 4)
  | ino (ha : a = 1) (h1 : ¬ b = 1) (h2 : ¬ b = 2)
  | xno (ha : a = 2) (h1 : ¬ b = 1) (h2 : ¬ b = 2)
  | sno (ha : a = 3) (h1 : ¬ b = 3)
  | bno (ha : a = 4) (h1 : ¬ b = 4)
  | no (h1 : ¬ a = 1) (h2 : ¬ a = 2) (h3 : ¬ a = 3) (h4 : ¬ a = 4)
theorem ways (a b : Int) : Ways a b := by
  by_cases h1 : a = 1
  · by_cases g1 : b = 1
    · exact .ii h1 g1
    · by_cases g2 : b = 2
      · exact .ix h1 g2
      · exact .ino h1 g1 g2
  · by_cases h2 : a = 2
    · by_cases g1 : b = 1
      · exact .xi h2 g1
      · by_cases g2 : b = 2
        · exact .xx h2 g2
        · exact .xno h2 g1 g2
    · by_cases h3 : a = 3
      · by_cases g : b = 3
        · exact .ss h3 g
        · exact .sno h3 g
      · by_cases h4 : a = 4
        · by_cases g : b = 4
          · exact .bb h4 g
          · exact .bno h4 g
        · exact .no h1 h2 h3 h4
end Vl

theorem two_new (w : World) (A B : Obj) : Below w.heap.size w ((w.alloc A).alloc B) := ((Below.refl _ _).alloc (Nat.le_refl _) _).alloc (by simp) _
theorem Vl.cmpInt_range (n : Int) (x : Nat) : -1 ≤ Fl.cmpInt n x ∧ Fl.cmpInt n x ≤ 1 := by
  unfold Fl.cmpInt Fl.sgn
  split
  · omega
  · split
    · omega
    · split <;> omega

set_option maxHeartbeats 2000000 in
theorem vcmp_any (ak an : Int) (ax : Nat) (az : ByteArray) (ab : Bool) (bk bn : Int) (bx : Nat) (bz : ByteArray) (bb : Bool) (h1 : -9223372036854775808 ≤ an) (h2 : an ≤ 9223372036854775807) (h3 : -9223372036854775808 ≤ bn) (h4 : bn ≤ 9223372036854775807) (w : World) :
    Calls Tryz.prog 78 #[vl ak an ax az ab, vl bk bn bx bz bb] w fun e w' => e = .returned (pairIB (Vl.cmp ⟨ak, an, ax, az, ab⟩ ⟨bk, bn, bx, bz, bb⟩) (Vl.ok ⟨ak, an, ax, az, ab⟩ ⟨bk, bn, bx, bz, bb⟩)) ∧ Below w.heap.size w w' := by
  have hW := Vl.ways ak bk
  rcases hW with ⟨rfl, rfl⟩ | ⟨rfl, rfl⟩ | ⟨rfl, rfl⟩ | ⟨rfl, rfl⟩ | ⟨rfl, rfl⟩ | ⟨rfl, rfl⟩ | ⟨rfl, g1, g2⟩ | ⟨rfl, g1, g2⟩ | ⟨rfl, g1⟩ | ⟨rfl, g1⟩ | ⟨g1, g2, g3, g4⟩
  case xi =>
    have hr := Vl.cmpInt_range bn ax
    go_enter Tryz.func78, Tryz.ntmps78
    go_wp2_with (go_at_call 99; refine (cmpint_any _ _ h3 h4 _).mono ?_; rintro e w' ⟨rfl, rfl⟩)
    go_ret2
    exact ⟨pairIB_eq (by simp [Vl.cmp]) (by simp [Vl.ok]), two_new _ _ _⟩
  all_goals
    go_enter Tryz.func78, Tryz.ntmps78
    go_wp2_with (first | (go_at_call 98; refine (compi_any _ _ _).mono ?_; rintro e w' ⟨rfl, rfl⟩) | (go_at_call 99; refine (cmpint_any _ _ h1 h2 _).mono ?_; rintro e w' ⟨rfl, rfl⟩) | (go_at_call 100; refine (cmp_any _ _ _).mono ?_; rintro e w' ⟨rfl, rfl⟩) | (go_at_call 101; refine (comps_any _ _ _).mono ?_; rintro e w' ⟨rfl, rfl⟩) | (go_at_call 102; refine (cmpbool_any _ _ _).mono ?_; rintro e w' ⟨rfl, rfl⟩))
    go_ret2
    exact ⟨pairIB_eq (by simp [Vl.cmp, *]) (by simp [Vl.ok, *]), two_new _ _ _⟩

end Go.Proofs.YtfbfbajccphkoaaGreat
