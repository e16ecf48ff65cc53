
/- Tests: a test as memory holds it; words on tests; the contracts of package pred's functions, Implies apart. -/
import Derived.Test.YtgenmebmdpnjhaaGreatG2
namespace Go.Proofs.YtgenmebmdpnjhaaGreat
open Go.RowKit
set_option linter.unusedVariables false

/-- A test of package api: Name, Test, V, W, Set. -/
structure Prd where
  name : ByteArray
  t : Int
  v : Val
  w : Val
  set : List Val
abbrev pv (p : Prd) (A : Option Addr) (n c : Nat) : Value := .agg #[.string p.name, .int .i64 p.t, .int .i64 p.v.k, .int .i64 p.v.n, .float .f64 p.v.x, .string p.v.s, .bool p.v.b, .int .i64 p.w.k, .int .i64 p.w.n, .float .f64 p.w.x, .string p.w.s, .bool p.w.b, .slice A n c]
abbrev pbox (p : Prd) (A : Option Addr) (n c : Nat) : Obj := .cells #[.string p.name, .int .i64 p.t, .int .i64 p.v.k, .int .i64 p.v.n, .float .f64 p.v.x, .string p.v.s, .bool p.v.b, .int .i64 p.w.k, .int .i64 p.w.n, .float .f64 p.w.x, .string p.w.s, .bool p.w.b, .slice A n c] 98
structure IsPrd (w : World) (p : Prd) (A : Option Addr) (n : Nat) : Prop where
  nm : p.name.size ≤ 9223372036854775807
  fv : Fit p.v
  fw : Fit p.w
  set : Vs w A n p.set
theorem IsPrd.later {w w' : World} {p : Prd} {A : Option Addr} {n : Nat} (h : IsPrd w p A n) (k : Below w.heap.size w w') : IsPrd w' p A n := ⟨h.nm, h.fv, h.fw, h.set.later k⟩
theorem IsPrd.kept {S : Nat → Prop} {w w' : World} {p : Prd} {A : Option Addr} {n : Nat} (h : IsPrd w p A n) (k : Kept S w w') (hs : ∀ x, A = some x → ¬ S x.block) : IsPrd w' p A n := ⟨h.nm, h.fv, h.fw, h.set.kept k hs⟩
/-- The thirteen cells of a test in block g, in each world later than W. -/
structure PBox (W : World) (g : Nat) (p : Prd) (A : Option Addr) (n c : Nat) : Prop where
  h0 : ∀ x : Later W, x.at_.cell? ⟨g, 0, none⟩ = some (.string p.name)
  h1 : ∀ x : Later W, x.at_.cell? ⟨g, 1, none⟩ = some (.int .i64 p.t)
  h2 : ∀ x : Later W, x.at_.cell? ⟨g, 2, none⟩ = some (.int .i64 p.v.k)
  h3 : ∀ x : Later W, x.at_.cell? ⟨g, 3, none⟩ = some (.int .i64 p.v.n)
  h4 : ∀ x : Later W, x.at_.cell? ⟨g, 4, none⟩ = some (.float .f64 p.v.x)
  h5 : ∀ x : Later W, x.at_.cell? ⟨g, 5, none⟩ = some (.string p.v.s)
  h6 : ∀ x : Later W, x.at_.cell? ⟨g, 6, none⟩ = some (.bool p.v.b)
  h7 : ∀ x : Later W, x.at_.cell? ⟨g, 7, none⟩ = some (.int .i64 p.w.k)
  h8 : ∀ x : Later W, x.at_.cell? ⟨g, 8, none⟩ = some (.int .i64 p.w.n)
  h9 : ∀ x : Later W, x.at_.cell? ⟨g, 9, none⟩ = some (.float .f64 p.w.x)
  h10 : ∀ x : Later W, x.at_.cell? ⟨g, 10, none⟩ = some (.string p.w.s)
  h11 : ∀ x : Later W, x.at_.cell? ⟨g, 11, none⟩ = some (.bool p.w.b)
  h12 : ∀ x : Later W, x.at_.cell? ⟨g, 12, none⟩ = some (.slice A n c)
theorem pbox_new (w : World) (p : Prd) (A : Option Addr) (n c : Nat) : PBox (w.alloc (pbox p A n c)) w.heap.size p A n c := by
  constructor <;> (intro x; exact later_cell (by rw [World.cell?_alloc_new]; rfl) x)
theorem PBox.next {W : World} {g : Nat} {p : Prd} {A : Option Addr} {n c : Nat} (h : PBox W g p A n c) (W' : World) (k : Below W.heap.size W W') : PBox W' g p A n c :=
  have e := fun x : Later W' => (⟨x.at_, below_then k x.below⟩ : Later W)
  ⟨fun x => h.h0 ⟨x.at_, below_then k x.below⟩, fun x => h.h1 ⟨x.at_, below_then k x.below⟩, fun x => h.h2 ⟨x.at_, below_then k x.below⟩, fun x => h.h3 ⟨x.at_, below_then k x.below⟩, fun x => h.h4 ⟨x.at_, below_then k x.below⟩, fun x => h.h5 ⟨x.at_, below_then k x.below⟩, fun x => h.h6 ⟨x.at_, below_then k x.below⟩, fun x => h.h7 ⟨x.at_, below_then k x.below⟩, fun x => h.h8 ⟨x.at_, below_then k x.below⟩, fun x => h.h9 ⟨x.at_, below_then k x.below⟩, fun x => h.h10 ⟨x.at_, below_then k x.below⟩, fun x => h.h11 ⟨x.at_, below_then k x.below⟩, fun x => h.h12 ⟨x.at_, below_then k x.below⟩⟩
structure VBox (W : World) (g : Nat) (a : Val) : Prop where
  h0 : ∀ x : Later W, x.at_.cell? ⟨g, 0, none⟩ = some (.int .i64 a.k)
  h1 : ∀ x : Later W, x.at_.cell? ⟨g, 1, none⟩ = some (.int .i64 a.n)
  h2 : ∀ x : Later W, x.at_.cell? ⟨g, 2, none⟩ = some (.float .f64 a.x)
  h3 : ∀ x : Later W, x.at_.cell? ⟨g, 3, none⟩ = some (.string a.s)
  h4 : ∀ x : Later W, x.at_.cell? ⟨g, 4, none⟩ = some (.bool a.b)
theorem vbox_new (w : World) (a : Val) : VBox (w.alloc (.cells #[.int .i64 a.k, .int .i64 a.n, .float .f64 a.x, .string a.s, .bool a.b] 64)) w.heap.size a := by
  constructor <;> (intro x; exact later_cell (by rw [World.cell?_alloc_new]; rfl) x)

abbrev vbox (a : Val) : Obj := .cells #[.int .i64 a.k, .int .i64 a.n, .float .f64 a.x, .string a.s, .bool a.b] 64
theorem VBox.next {W : World} {g : Nat} {a : Val} (h : VBox W g a) (W' : World) (k : Below W.heap.size W W') : VBox W' g a :=
  ⟨fun x => h.h0 ⟨x.at_, below_then k x.below⟩, fun x => h.h1 ⟨x.at_, below_then k x.below⟩, fun x => h.h2 ⟨x.at_, below_then k x.below⟩, fun x => h.h3 ⟨x.at_, below_then k x.below⟩, fun x => h.h4 ⟨x.at_, below_then k x.below⟩⟩
/-- A world whose later ones have the boxes of the parameters. -/
theorem world_p (w : World) (p : Prd) (A : Option Addr) (n c : Nat) : ∃ W, Below W.heap.size W (w.alloc (pbox p A n c)) ∧ Below w.heap.size w W ∧ PBox W w.heap.size p A n c := ⟨_, Below.refl _ _, one_new _ _, pbox_new _ _ _ _ _⟩
theorem size_next (w : World) (o : Obj) : (w.alloc o).heap.size = w.heap.size + 1 := by simp
theorem world_pv (w : World) (p : Prd) (A : Option Addr) (n c : Nat) (v : Val) : ∃ W, Below W.heap.size W ((w.alloc (pbox p A n c)).alloc (vbox v)) ∧ Below w.heap.size w W ∧ PBox W w.heap.size p A n c ∧ VBox W (w.heap.size + 1) v :=
  ⟨_, Below.refl _ _, two_new _ _ _, (pbox_new _ _ _ _ _).next _ (one_new _ _), by have := vbox_new (w.alloc (pbox p A n c)) v; rw [size_next] at this; exact this⟩
theorem world_vp (w : World) (p : Prd) (A : Option Addr) (n c : Nat) (v : Val) : ∃ W, Below W.heap.size W ((w.alloc (vbox v)).alloc (pbox p A n c)) ∧ Below w.heap.size w W ∧ VBox W w.heap.size v ∧ PBox W (w.heap.size + 1) p A n c :=
  ⟨_, Below.refl _ _, two_new _ _ _, (vbox_new _ _).next _ (one_new _ _), by have := pbox_new (w.alloc (vbox v)) p A n c; rw [size_next] at this; exact this⟩
theorem world_pp (w : World) (p : Prd) (A : Option Addr) (n c : Nat) (q : Prd) (B : Option Addr) (m d : Nat) : ∃ W, Below W.heap.size W ((w.alloc (pbox p A n c)).alloc (pbox q B m d)) ∧ Below w.heap.size w W ∧ PBox W w.heap.size p A n c ∧ PBox W (w.heap.size + 1) q B m d :=
  ⟨_, Below.refl _ _, two_new _ _ _, (pbox_new _ _ _ _ _).next _ (one_new _ _), by have := pbox_new (w.alloc (pbox p A n c)) q B m d; rw [size_next] at this; exact this⟩

namespace Pd
def right (p : Prd) : Bool := At.word p.name &&
  (if p.t = 1 then zero p.v && zero p.w && decide (p.set.length = 0)
   else if p.t = 8 then Vl.right p.v && Vl.right p.w && decide (p.set.length = 0)
   else if p.t = 9 then Vl.right p.v && decide (p.v.k = 3) && zero p.w && decide (p.set.length = 0)
   else if p.t = 10 then zero p.v && zero p.w && rset p.set
   else if 2 ≤ p.t ∧ p.t ≤ 7 then Vl.right p.v && zero p.w && decide (p.set.length = 0)
   else false)
def takes (p : Prd) (v : Val) : Bool :=
  if p.t = 1 then true
  else if p.t = 2 then Vl.ok v p.v && decide (Vl.cmp v p.v = 0)
  else if p.t = 3 then !Vl.ok v p.v || !decide (Vl.cmp v p.v = 0)
  else if p.t = 4 then Vl.ok v p.v && decide (Vl.cmp v p.v < 0)
  else if p.t = 5 then Vl.ok v p.v && decide (Vl.cmp v p.v ≤ 0)
  else if p.t = 6 then Vl.ok v p.v && decide (0 < Vl.cmp v p.v)
  else if p.t = 7 then Vl.ok v p.v && decide (0 ≤ Vl.cmp v p.v)
  else if p.t = 8 then Vl.ok v p.v && decide (0 ≤ Vl.cmp v p.v) && most v p.w
  else if p.t = 9 then decide (v.k = 3) && pre v.s p.v.s
  else if p.t = 10 then p.set.any (Vl.is v)
  else false
def void (p : Prd) : Bool :=
  if p.t = 2 ∨ p.t = 4 ∨ p.t = 5 ∨ p.t = 6 ∨ p.t = 7 then nan p.v
  else if p.t = 8 then !most p.v p.w
  else if p.t = 10 then !p.set.any (fun v => !nan v)
  else false
def sameT (a b : Prd) : Bool := decide (a.t = b.t) && Vl.same a.v b.v && Vl.same a.w b.w && sames a.set b.set
def same (a b : Prd) : Bool := (a.name.toList == b.name.toList) && sameT a b
theorem tests (t : Int) : t = 1 ∨ t = 2 ∨ t = 3 ∨ t = 4 ∨ t = 5 ∨ t = 6 ∨ t = 7 ∨ t = 8 ∨ t = 9 ∨ t = 10 ∨ (¬ t = 1 ∧ ¬ t = 2 ∧ ¬ t = 3 ∧ ¬ t = 4 ∧ ¬ t = 5 ∧ ¬ t = 6 ∧ ¬ t = 7 ∧ ¬ t = 8 ∧ ¬ t = 9 ∧ ¬ t = 10) := by omega
end Pd
theorem ret_bool {a b : Bool} (h : a = b) : Ending.returned (.bool a) = .returned (.bool b) := by rw [h]

theorem rightset_l {A : Option Addr} {n c : Nat} {l : List Val} {W : World} {x : Later W} (h : Vs W A n l) :
    Calls Tryz.prog 152 #[.slice A n c] x.at_ fun e w' => e = .returned (.bool (Pd.rset l)) ∧ ∃ y : Later W, w' = y.at_ := calls_later (rightset_any (h.later x.below))
theorem equal_l {A B : Option Addr} {n c n' c' : Nat} {l m : List Val} {W : World} {x : Later W} (h : Vs W A n l) (h' : Vs W B n' m) :
    Calls Tryz.prog 153 #[.slice A n c, .slice B n' c', .func (.func 105) #[] #[]] x.at_ fun e w' => e = .returned (.bool (Pd.sames l m)) ∧ ∃ y : Later W, w' = y.at_ := calls_later (equal_any (h.later x.below) (h'.later x.below))
theorem zero_len (l : List Val) : ((l.length : Int) == 0) = decide (l = []) := by
  cases l with
  | nil => rfl
  | cons a l =>
    have h : ¬ (((a :: l).length : Int) = 0) := by simp only [List.length_cons]; omega
    rw [decide_eq_false (by simp)]
    exact beq_eq_false_iff_ne.2 h
set_option maxHeartbeats 8000000 in
theorem pright_any {p : Prd} {A : Option Addr} {n c : Nat} {w : World} (h : IsPrd w p A n) : Calls Tryz.prog 131 #[pv p A n c] w fun e w' => e = .returned (.bool (Pd.right p)) ∧ Below w.heap.size w w' := by
  obtain ⟨W, hW1, hW, hB⟩ := world_p w p A n c
  obtain ⟨nm, t, v, u, l⟩ := p
  obtain ⟨hnm, hv, hu, hl⟩ := h
  obtain rfl : l.length = n := hl.len
  have hfew := hl.few
  have HL := Lib.hid hl
  have HW := Lib.hid hW
  have HLW := Lib.hid (hl.later hW)
  have HW1 := Lib.hid hW1
  clear hl hv hu hW hW1
  obtain ⟨c0, c1, c2, c3, c4, c5, c6, c7, c8, c9, c10, c11, c12⟩ := hB
  dsimp only at c0 c1 c2 c3 c4 c5 c6 c7 c8 c9 c10 c11 c12 hnm HL HLW
  have hz0 : ((l.length : Int) == 0) = decide (l = []) := zero_len l
  have HZ := Lib.hid hz0
  clear hz0
  haveI := later_some W
  go_enter Tryz.func131, Tryz.ntmps131
  go_wp2_with fail
  refine (calls_later_same (x := ⟨_, HW1.out⟩) (word_any nm hnm _)).mono ?_
  rintro e _ ⟨rfl, y, rfl⟩
  clear HW1
  cases hw : At.word nm
  · go_wp2_with fail
    go_ret
    exact ⟨ret_bool (by simp [Pd.right, hw]), below_then HW.out y.below⟩
  have ht := Pd.tests t
  rcases ht with rfl | rfl | rfl | rfl | rfl | rfl | rfl | rfl | rfl | rfl | ⟨g1, g2, g3, g4, g5, g6, g7, g8, g9, g10⟩
  · cases h1 : Pd.zero v <;> cases h2 : Pd.zero u
    all_goals
      go_wp2_with (first | (go_at_call 151; refine (calls_later (zero_any _ _)).mono ?_; rintro e _ ⟨rfl, y, rfl⟩) | (go_at_call 101; refine (calls_later (vright_v _ _)).mono ?_; rintro e _ ⟨rfl, y, rfl⟩) | (go_at_call 152; refine (rightset_l HLW.out).mono ?_; rintro e _ ⟨rfl, y, rfl⟩) | fail)
      go_ret
      exact ⟨ret_bool (by simp [Pd.right, hw, h1, h2, HZ.out]), below_then HW.out (Later.below _)⟩
  case' inr.inr.inr.inr.inr.inr.inr.inr.inr.inr =>
    go_wp2_with fail
    go_ret
    exact ⟨ret_bool (by simp [Pd.right, hw, g1, g8, g9, g10]; omega), below_then HW.out (Later.below _)⟩
  case' inr.inr.inr.inr.inr.inr.inr.inr.inr.inl =>
    cases h1 : Pd.zero v <;> cases h2 : Pd.zero u
    all_goals
      go_wp2_with (first | (go_at_call 151; refine (calls_later (zero_any _ _)).mono ?_; rintro e _ ⟨rfl, y, rfl⟩) | (go_at_call 101; refine (calls_later (vright_v _ _)).mono ?_; rintro e _ ⟨rfl, y, rfl⟩) | (go_at_call 152; refine (rightset_l HLW.out).mono ?_; rintro e _ ⟨rfl, y, rfl⟩) | fail)
      go_ret
      exact ⟨ret_bool (by simp [Pd.right, hw, h1, h2]), below_then HW.out (Later.below _)⟩
  case' inr.inr.inr.inr.inr.inr.inr.inr.inl =>
    go_wp2_with fail
    refine (calls_later (vright_v v _)).mono ?_
    rintro e _ ⟨rfl, y, rfl⟩
    cases h1 : Vl.right v <;> cases h2 : Pd.zero u <;> by_cases h3 : v.k = 3
    all_goals
      go_wp2_with (first | (go_at_call 151; refine (calls_later (zero_any u _)).mono ?_; rintro e _ ⟨rfl, y, rfl⟩) | fail)
      go_ret
      exact ⟨ret_bool (by simp [Pd.right, hw, h1, h2, h3, HZ.out]), below_then HW.out (Later.below _)⟩
  case' inr.inr.inr.inr.inr.inr.inr.inl =>
    cases h1 : Vl.right v <;> cases h2 : Vl.right u
    all_goals
      go_wp2_with (first | (go_at_call 151; refine (calls_later (zero_any _ _)).mono ?_; rintro e _ ⟨rfl, y, rfl⟩) | (go_at_call 101; refine (calls_later (vright_v _ _)).mono ?_; rintro e _ ⟨rfl, y, rfl⟩) | (go_at_call 152; refine (rightset_l HLW.out).mono ?_; rintro e _ ⟨rfl, y, rfl⟩) | fail)
      go_ret
      exact ⟨ret_bool (by simp [Pd.right, hw, h1, h2, HZ.out]), below_then HW.out (Later.below _)⟩
  all_goals
    cases h1 : Vl.right v <;> cases h2 : Pd.zero u
    all_goals
      go_wp2_with (first | (go_at_call 151; refine (calls_later (zero_any _ _)).mono ?_; rintro e _ ⟨rfl, y, rfl⟩) | (go_at_call 101; refine (calls_later (vright_v _ _)).mono ?_; rintro e _ ⟨rfl, y, rfl⟩) | (go_at_call 152; refine (rightset_l HLW.out).mono ?_; rintro e _ ⟨rfl, y, rfl⟩) | fail)
      go_ret
      exact ⟨ret_bool (by simp [Pd.right, hw, h1, h2, HZ.out]), below_then HW.out (Later.below _)⟩
theorem pright_l {p : Prd} {A : Option Addr} {n c : Nat} {W : World} {x : Later W} (h : IsPrd W p A n) : Calls Tryz.prog 131 #[pv p A n c] x.at_ fun e w' => e = .returned (.bool (Pd.right p)) ∧ ∃ y : Later W, w' = y.at_ := calls_later (pright_any (h.later x.below))

end Go.Proofs.YtgenmebmdpnjhaaGreat
