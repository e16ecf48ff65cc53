
/- Values as keys: what their order is. Plain mathematics; nothing of the program. -/
import Derived.Test.YtgenmebmdpnjhaaVal
namespace Go.Proofs.Ytgenmebmdpnjhaa
namespace Vl
open Go.RowKit

inductive Key where
  | num (z : Int)
  | txt (l : List UInt8)
  | bool (b : Bool)
  | none
/-- What a value is, as far as its order goes. -/
def key (a : Val) : Key :=
  if a.k = 1 then .num (a.n * (Fl.U : Int))
  else if a.k = 2 then (if Fl.nan a.x then .none else .num (Fl.Z a.x))
  else if a.k = 3 then .txt a.s.toList
  else if a.k = 4 then .bool a.b
  else .none
def tx (l m : List UInt8) : Int := if Op.bytesLess l m then -1 else if l == m then 0 else 1
def kcmp : Key → Key → Int
  | .num x, .num y => Fl.sgn x y
  | .txt l, .txt m => tx l m
  | .bool a, .bool b => bl a b
  | _, _ => 0
def kok : Key → Key → Bool
  | .num _, .num _ => true
  | .txt _, .txt _ => true
  | .bool _, .bool _ => true
  | _, _ => false

theorem sgn_scale (a b : Int) : Fl.sgn (a * (Fl.U : Int)) (b * (Fl.U : Int)) = Fl.sgn a b := by
  have hu := Fl.UI
  rcases Int.lt_trichotomy a b with h | h | h
  · rw [Fl.sgn_lt h, Fl.sgn_lt (Int.mul_lt_mul_of_pos_right h hu)]
  · rw [Fl.sgn_eq h, Fl.sgn_eq (by rw [h])]
  · rw [Fl.sgn_gt h, Fl.sgn_gt (Int.mul_lt_mul_of_pos_right h hu)]
theorem sgn_turn (a b : Int) : Fl.sgn b a = -Fl.sgn a b := by unfold Fl.sgn; split <;> split <;> (try split) <;> omega

theorem cmp_key (a b : Val) : cmp a b = kcmp (key a) (key b) ∧ ok a b = kok (key a) (key b) := by
  obtain ⟨ak, an, ax, az, ab⟩ := a
  obtain ⟨bk, bn, bx, bz, bb⟩ := b
  have hW := ways ak bk
  rcases hW with ⟨rfl, rfl⟩ | ⟨rfl, rfl⟩ | ⟨rfl, rfl⟩ | ⟨rfl, rfl⟩ | ⟨rfl, rfl⟩ | ⟨rfl, rfl⟩ | ⟨rfl, g1, g2⟩ | ⟨rfl, g1, g2⟩ | ⟨rfl, g1⟩ | ⟨rfl, g1⟩ | ⟨g1, g2, g3, g4⟩
  · simp [cmp, ok, key, kcmp, kok, sgn_scale]
  · cases h : Fl.nan bx
    · simp [cmp, ok, key, kcmp, kok, Fl.cmpInt, h]
    · simp [cmp, ok, key, kcmp, kok, Fl.cmpInt, h]
  · cases h : Fl.nan ax
    · simp [cmp, ok, key, kcmp, kok, Fl.cmpInt, h, ← sgn_turn]
    · simp [cmp, ok, key, kcmp, kok, Fl.cmpInt, h]
  · cases h : Fl.nan ax
    · cases g : Fl.nan bx
      · simp [cmp, ok, key, kcmp, kok, Fl.cmp, Fl.cmpOk, h, g]
      · simp [cmp, ok, key, kcmp, kok, Fl.cmp, Fl.cmpOk, h, g]
    · simp [cmp, ok, key, kcmp, kok, Fl.cmp, Fl.cmpOk, h]
  · simp [cmp, ok, key, kcmp, kok, txt, tx]
  · simp [cmp, ok, key, kcmp, kok]
  · simp only [cmp, ok, key, g1, g2]
    simp
    by_cases h3 : bk = 3
    · simp [h3, kcmp, kok]
    · by_cases h4 : bk = 4
      · simp [h4, kcmp, kok]
      · simp [h3, h4, kcmp, kok]
  · simp only [cmp, ok, key, g1, g2]
    simp
    cases h : Fl.nan ax
    · by_cases h3 : bk = 3
      · simp [h3, kcmp, kok]
      · by_cases h4 : bk = 4
        · simp [h4, kcmp, kok]
        · simp [h3, h4, kcmp, kok]
    · simp [kcmp, kok]
  · simp only [cmp, ok, key, g1]
    simp
    by_cases h1 : bk = 1
    · simp [h1, kcmp, kok]
    · by_cases h2 : bk = 2
      · cases h : Fl.nan bx <;> simp [h2, kcmp, kok]
      · by_cases h4 : bk = 4
        · simp [h4, kcmp, kok]
        · simp [h1, h2, h4, kcmp, kok]
  · simp only [cmp, ok, key, g1]
    simp
    by_cases h1 : bk = 1
    · simp [h1, kcmp, kok]
    · by_cases h2 : bk = 2
      · cases h : Fl.nan bx <;> simp [h2, kcmp, kok]
      · by_cases h3 : bk = 3
        · simp [h3, kcmp, kok]
        · simp [h1, h2, h3, kcmp, kok]
  · simp [cmp, ok, key, g1, g2, g3, g4, kcmp, kok]

theorem less_trans : ∀ l m r : List UInt8, Op.bytesLess l m = true → Op.bytesLess m r = true → Op.bytesLess l r = true
  | [], [], _, h, _ => by simp [Op.bytesLess] at h
  | _ :: _, [], _, h, _ => by simp [Op.bytesLess] at h
  | _, _ :: _, [], _, g => by simp [Op.bytesLess] at g
  | [], _ :: _, _ :: _, _, _ => by simp [Op.bytesLess]
  | a :: l, b :: m, c :: r, h, g => by
    simp only [Op.bytesLess, Bool.or_eq_true, decide_eq_true_eq, Bool.and_eq_true, beq_iff_eq] at h g ⊢
    rcases h with h | ⟨rfl, h⟩
    · rcases g with g | ⟨rfl, g⟩
      · exact .inl (UInt8.lt_trans h g)
      · exact .inl h
    · rcases g with g | ⟨rfl, g⟩
      · exact .inl g
      · exact .inr ⟨rfl, less_trans l m r h g⟩
theorem less_total : ∀ l m : List UInt8, Op.bytesLess l m = true ∨ l = m ∨ Op.bytesLess m l = true
  | [], [] => .inr (.inl rfl)
  | [], _ :: _ => .inl rfl
  | _ :: _, [] => .inr (.inr rfl)
  | a :: l, b :: m => by
    simp only [Op.bytesLess, Bool.or_eq_true, decide_eq_true_eq, Bool.and_eq_true, beq_iff_eq, List.cons.injEq]
    rcases Nat.lt_trichotomy a.toNat b.toNat with h | h | h
    · exact .inl (.inl h)
    · have e : a = b := UInt8.toNat_inj.1 h
      subst e
      rcases less_total l m with g | g | g
      · exact .inl (.inr ⟨rfl, g⟩)
      · exact .inr (.inl ⟨rfl, g⟩)
      · exact .inr (.inr (.inr ⟨rfl, g⟩))
    · exact .inr (.inr (.inl h))
theorem tx_lt {l m : List UInt8} (h : Op.bytesLess l m = true) : tx l m = -1 := by simp [tx, h]
theorem tx_eq {l : List UInt8} : tx l l = 0 := by simp [tx, less_irrefl]
theorem tx_gt {l m : List UInt8} (h : Op.bytesLess m l = true) : tx l m = 1 := by
  have h1 : Op.bytesLess l m = false := by
    cases e : Op.bytesLess l m
    · rfl
    · have := less_trans _ _ _ e h
      rw [less_irrefl] at this
      cases this
  have h2 : (l == m) = false := by
    cases e : (l == m)
    · rfl
    · have e' : l = m := by simpa using e
      subst e'
      rw [less_irrefl] at h
      cases h
  simp [tx, h1, h2]

theorem kturn (a b : Key) : kcmp b a = -kcmp a b ∧ kok b a = kok a b := by
  cases a <;> cases b <;> simp [kcmp, kok]
  · exact sgn_turn _ _
  · rename_i l m
    rcases less_total l m with h | h | h
    · rw [tx_lt h, tx_gt h]; rfl
    · subst h; rw [tx_eq]; rfl
    · rw [tx_gt h, tx_lt h]
  · rename_i a b
    cases a <;> cases b <;> rfl
theorem kzero {a b : Key} (hk : kok a b = true) (h : kcmp a b = 0) : a = b := by
  cases a <;> cases b <;> simp [kcmp, kok] at h hk ⊢
  · rename_i x y
    unfold Fl.sgn at h
    split at h
    · omega
    · split at h <;> omega
  · rename_i l m
    rcases less_total l m with g | g | g
    · rw [tx_lt g] at h; omega
    · exact g
    · rw [tx_gt g] at h; omega
  · rename_i a b
    cases a <;> cases b <;> simp [bl] at h ⊢
theorem kself (a : Key) : kcmp a a = 0 := by
  cases a <;> simp [kcmp]
  · exact Fl.sgn_eq rfl
  · exact tx_eq
  · rename_i b
    cases b <;> rfl
theorem sgn_three (x y z : Int) : (Fl.sgn x y ≤ 0 → Fl.sgn y z ≤ 0 → Fl.sgn x z = min (Fl.sgn x y) (Fl.sgn y z)) ∧ (0 ≤ Fl.sgn x y → 0 ≤ Fl.sgn y z → Fl.sgn x z = max (Fl.sgn x y) (Fl.sgn y z)) := by
  rcases Int.lt_trichotomy x y with h | h | h <;> rcases Int.lt_trichotomy y z with g | g | g
  · rw [Fl.sgn_lt h, Fl.sgn_lt g, Fl.sgn_lt (show x < z by omega)]; omega
  · rw [Fl.sgn_lt h, Fl.sgn_eq g, Fl.sgn_lt (show x < z by omega)]; omega
  · rw [Fl.sgn_lt h, Fl.sgn_gt g]; omega
  · rw [Fl.sgn_eq h, Fl.sgn_lt g, Fl.sgn_lt (show x < z by omega)]; omega
  · rw [Fl.sgn_eq h, Fl.sgn_eq g, Fl.sgn_eq (show x = z by omega)]; omega
  · rw [Fl.sgn_eq h, Fl.sgn_gt g, Fl.sgn_gt (show z < x by omega)]; omega
  · rw [Fl.sgn_gt h, Fl.sgn_lt g]; omega
  · rw [Fl.sgn_gt h, Fl.sgn_eq g, Fl.sgn_gt (show z < x by omega)]; omega
  · rw [Fl.sgn_gt h, Fl.sgn_gt g, Fl.sgn_gt (show z < x by omega)]; omega
theorem tx_three (x y z : List UInt8) : (tx x y ≤ 0 → tx y z ≤ 0 → tx x z = min (tx x y) (tx y z)) ∧ (0 ≤ tx x y → 0 ≤ tx y z → tx x z = max (tx x y) (tx y z)) := by
  rcases less_total x y with h | h | h <;> rcases less_total y z with g | g | g
  · rw [tx_lt h, tx_lt g, tx_lt (less_trans _ _ _ h g)]; omega
  · subst g; rw [tx_lt h, tx_eq]; omega
  · rw [tx_lt h, tx_gt g]; omega
  · subst h; rw [tx_eq, tx_lt g]; omega
  · subst h; subst g; rw [tx_eq]; omega
  · subst h; rw [tx_eq, tx_gt g]; omega
  · rw [tx_gt h, tx_lt g]; omega
  · subst g; rw [tx_gt h, tx_eq]; omega
  · rw [tx_gt h, tx_gt g, tx_gt (less_trans _ _ _ g h)]; omega
theorem kthree {a b c : Key} (h : kok a b = true) (g : kok b c = true) : kok a c = true ∧ (kcmp a b ≤ 0 → kcmp b c ≤ 0 → kcmp a c = min (kcmp a b) (kcmp b c)) ∧ (0 ≤ kcmp a b → 0 ≤ kcmp b c → kcmp a c = max (kcmp a b) (kcmp b c)) := by
  cases a <;> cases b <;> cases c <;> simp only [kok, Bool.false_eq_true] at h g ⊢ <;> simp only [kcmp, true_and]
  · exact sgn_three _ _ _
  · exact tx_three _ _ _
  · rename_i a b c
    cases a <;> cases b <;> cases c <;> decide
theorem krange (a b : Key) : -1 ≤ kcmp a b ∧ kcmp a b ≤ 1 := by
  cases a <;> cases b <;> simp only [kcmp] <;> try omega
  · unfold Fl.sgn; split <;> (try split) <;> omega
  · unfold tx; split <;> (try split) <;> omega
  · unfold bl; split <;> (try split) <;> omega

theorem turn (a b : Val) : cmp b a = -cmp a b ∧ ok b a = ok a b := by
  rw [(cmp_key a b).1, (cmp_key a b).2, (cmp_key b a).1, (cmp_key b a).2]; exact kturn _ _
theorem three {a b c : Val} (h : ok a b = true) (g : ok b c = true) : ok a c = true ∧ (cmp a b ≤ 0 → cmp b c ≤ 0 → cmp a c = min (cmp a b) (cmp b c)) ∧ (0 ≤ cmp a b → 0 ≤ cmp b c → cmp a c = max (cmp a b) (cmp b c)) := by
  rw [(cmp_key a b).2] at h
  rw [(cmp_key b c).2] at g
  rw [(cmp_key a b).1, (cmp_key b c).1, (cmp_key a c).1, (cmp_key a c).2]; exact kthree h g
theorem range (a b : Val) : -1 ≤ cmp a b ∧ cmp a b ≤ 1 := by rw [(cmp_key a b).1]; exact krange _ _
/-- What is another one stands to a third one alike. -/
theorem is_like {a b : Val} (h : is a b = true) (c : Val) : cmp a c = cmp b c ∧ ok a c = ok b c := by
  have hk : key a = key b := by
    unfold is at h
    rw [Bool.and_eq_true, decide_eq_true_eq, (cmp_key a b).1, (cmp_key a b).2] at h
    exact kzero h.1 h.2
  rw [(cmp_key a c).1, (cmp_key a c).2, (cmp_key b c).1, (cmp_key b c).2, hk]
  exact ⟨rfl, rfl⟩
theorem same_float {x y : Nat} (h : Fl.same x y = true) : Fl.nan x = Fl.nan y ∧ (Fl.nan x = false → Fl.Z x = Fl.Z y) := by
  have h' : Fl.bits x = Fl.bits y := by simpa [Fl.same] using h
  have hq : Fl.nan 9221120237041090560 = true := by decide
  have hz : Fl.nan 0 = false := by decide
  have key : ∀ x y : Nat, Fl.nan x = true → Fl.nan y = false → Fl.bits x = Fl.bits y → False := by
    intro x y hx hy h
    rw [Fl.bits_nan hx] at h
    cases e : Fl.isZero y
    · rw [Fl.bits_else hy e] at h
      rw [← h, hq] at hy
      cases hy
    · rw [Fl.bits_zero hy e] at h
      cases h
  have zro : ∀ x : Nat, Fl.isZero x = true → Fl.Z x = 0 := fun x h => (Fl.Z_zero_iff x).2 (of_decide_eq_true h)
  cases hx : Fl.nan x
  · cases hy : Fl.nan y
    · refine ⟨rfl, fun _ => ?_⟩
      cases ex : Fl.isZero x
      · cases ey : Fl.isZero y
        · rw [Fl.bits_else hx ex, Fl.bits_else hy ey] at h'
          rw [h']
        · rw [Fl.bits_else hx ex, Fl.bits_zero hy ey] at h'
          rw [h'] at ex
          cases ex
      · rw [zro x ex]
        cases ey : Fl.isZero y
        · rw [Fl.bits_zero hx ex, Fl.bits_else hy ey] at h'
          rw [← h'] at ey
          cases ey
        · rw [zro y ey]
    · exact (key y x hy hx h'.symm).elim
  · cases hy : Fl.nan y
    · exact (key x y hx hy h').elim
    · exact ⟨rfl, fun h => by cases h⟩
theorem same_key {a b : Val} (h : same a b = true) : key a = key b := by
  obtain ⟨ak, an, ax, az, ab⟩ := a
  obtain ⟨bk, bn, bx, bz, bb⟩ := b
  simp only [same, Bool.and_eq_true, decide_eq_true_eq, beq_iff_eq] at h
  obtain ⟨⟨⟨⟨rfl, rfl⟩, hx⟩, hs⟩, rfl⟩ := h
  obtain ⟨hn, hz⟩ := same_float hx
  simp only [key, hs]
  cases e : Fl.nan ax
  · rw [← hn, e, hz e]
  · rw [← hn, e]
    simp
theorem same_like {a b : Val} (h : same a b = true) (c : Val) : cmp a c = cmp b c ∧ ok a c = ok b c := by
  rw [(cmp_key a c).1, (cmp_key a c).2, (cmp_key b c).1, (cmp_key b c).2, same_key h]
  exact ⟨rfl, rfl⟩
theorem same_is {a b : Val} (h : same a b = true) : is a b = is a a := by
  unfold is
  rw [(cmp_key a b).1, (cmp_key a b).2, (cmp_key a a).1, (cmp_key a a).2, same_key h]
theorem same_self (a : Val) : same a a = true := by simp [same, Fl.same]
theorem same_comm (a b : Val) : same a b = same b a := by
  rw [Bool.eq_iff_iff]
  simp only [same, Fl.same, Bool.and_eq_true, decide_eq_true_eq, beq_iff_eq]
  constructor <;> (rintro ⟨⟨⟨⟨h1, h2⟩, h3⟩, h4⟩, h5⟩; exact ⟨⟨⟨⟨h1.symm, h2.symm⟩, h3.symm⟩, h4.symm⟩, h5.symm⟩)
theorem right_kind {a : Val} (h : right a = true) : a.k = 1 ∨ a.k = 2 ∨ a.k = 3 ∨ a.k = 4 := by
  obtain ⟨ak, an, ax, az, ab⟩ := a
  have hW : ak = 1 ∨ ak = 2 ∨ ak = 3 ∨ ak = 4 ∨ (¬ ak = 1 ∧ ¬ ak = 2 ∧ ¬ ak = 3 ∧ ¬ ak = 4) := by omega
  rcases hW with e | e | e | e | ⟨g1, g2, g3, g4⟩
  · exact .inl e
  · exact .inr (.inl e)
  · exact .inr (.inr (.inl e))
  · exact .inr (.inr (.inr e))
  · simp [right, g1, g2, g3, g4] at h
theorem is_self {a : Val} (h : right a = true) : is a a = (decide (a.k ≠ 2) || !Fl.nan a.x) := by
  unfold is
  rw [(cmp_key a a).1, (cmp_key a a).2, kself]
  have hk := right_kind h
  obtain ⟨ak, an, ax, az, ab⟩ := a
  rcases hk with rfl | rfl | rfl | rfl
  · simp [key, kok]
  · cases e : Fl.nan ax <;> simp [key, kok, e]
  · simp [key, kok]
  · simp [key, kok]
end Vl
end Go.Proofs.Ytgenmebmdpnjhaa
