
/- Trees as rows of parents: who is above whom, the way, how far, which side. Nothing of the program. -/
import Derived.Lib.Hide
namespace Go.Proofs.Ytegkphbnedbgfaa
namespace Tr
/-- Each of them is ahead of its kid, from place k on. -/
def okFrom : Nat → List Int → Bool
  | _, [] => true
  | k, u :: r => (decide (0 ≤ u) && decide (u ≤ (k : Int))) && okFrom (k + 1) r
def right (l : List Int) : Bool := decide (l.length ≤ 7) && okFrom 0 l
def has (l q : List Int) : Bool := right l && q.all (fun b => decide (0 ≤ b) && decide (b ≤ (l.length : Int)))
/-- The parent of b. -/
def par (l : List Int) (b : Nat) : Nat := min (l.getD (b - 1) 0).toNat (b - 1)
theorem par_le (l : List Int) (b : Nat) : par l b ≤ b - 1 := Nat.min_le_right _ _
theorem okFrom_get : ∀ {l : List Int} {k i : Nat} {u : Int}, okFrom k l = true → l[i]? = some u → 0 ≤ u ∧ u ≤ ((k + i : Nat) : Int)
  | [], _, _, _, _, h => by simp at h
  | v :: r, k, 0, u, h, h2 => by
    simp only [okFrom, Bool.and_eq_true, decide_eq_true_eq] at h
    simp at h2; subst h2; simpa using h.1
  | v :: r, k, i + 1, u, h, h2 => by
    simp only [okFrom, Bool.and_eq_true] at h
    have := okFrom_get h.2 (i := i) (u := u) (by simpa using h2)
    omega
theorem okFrom_drop {l : List Int} {k : Nat} {u : Int} (h : l[k]? = some u) : okFrom k (l.drop k) = ((decide (0 ≤ u) && decide (u ≤ (k : Int))) && okFrom (k + 1) (l.drop (k + 1))) := by
  obtain ⟨hk, he⟩ := List.getElem?_eq_some_iff.1 h
  rw [List.drop_eq_getElem_cons hk, he]; rfl
/-- A parent as it lies in the row. -/
theorem right_par {l : List Int} (h : right l = true) {b : Nat} (hb : 0 < b) (hb2 : b ≤ l.length) : l[b - 1]? = some (par l b : Int) ∧ par l b < b := by
  simp only [right, Bool.and_eq_true, decide_eq_true_eq] at h
  obtain ⟨u, hu⟩ : ∃ u, l[b - 1]? = some u := ⟨_, List.getElem?_eq_getElem (by omega)⟩
  have := okFrom_get h.2 hu
  have e : l.getD (b - 1) 0 = u := by rw [List.getD_eq_getElem?_getD, hu]; rfl
  have e2 : par l b = u.toNat := by unfold par; rw [e]; omega
  refine ⟨by rw [hu, e2, Int.toNat_of_nonneg this.1], ?_⟩
  have := par_le l b
  omega
theorem right_len {l : List Int} (h : right l = true) : l.length ≤ 7 := by
  simp only [right, Bool.and_eq_true, decide_eq_true_eq] at h
  exact h.1
/-- How many links lie between a and b. -/
def dist (l : List Int) (a b : Nat) : Nat :=
  if a = b then 0 else if a < b then dist l (par l b) a + 1 else dist l (par l a) b + 1
termination_by a + b
decreasing_by
  · have := par_le l b; omega
  · have := par_le l a; omega
/-- The next broker on the way from a to b. -/
def step (l : List Int) (a b : Nat) : Nat :=
  if b ≤ a then par l a else if par l b = a then b else step l a (par l b)
termination_by b
decreasing_by
  have := par_le l b; omega
/-- A broker and those above it. -/
def up (l : List Int) (b : Nat) : List Nat := b :: (if b = 0 then [] else up l (par l b))
termination_by b
decreasing_by
  have := par_le l b; omega
/-- All brokers from one to another. -/
def way (l : List Int) (a b : Nat) : List Nat :=
  if a = b then [a] else if a < b then way l a (par l b) ++ [b] else a :: way l (par l a) b
termination_by a + b
decreasing_by
  · have := par_le l b; omega
  · have := par_le l a; omega

theorem dist_self (l : List Int) (a : Nat) : dist l a a = 0 := by rw [dist]; simp
theorem dist_lt {l : List Int} {a b : Nat} (h : a < b) : dist l a b = dist l (par l b) a + 1 := by rw [dist, if_neg (by omega), if_pos h]
theorem dist_gt {l : List Int} {a b : Nat} (h : b < a) : dist l a b = dist l (par l a) b + 1 := by rw [dist, if_neg (by omega), if_neg (by omega)]
theorem dist_comm (l : List Int) (a b : Nat) : dist l a b = dist l b a := by
  rcases Nat.lt_trichotomy a b with h | h | h
  · rw [dist_lt h, dist_gt h]
  · rw [h]
  · rw [dist_lt h, dist_gt h]
theorem dist_le (l : List Int) : ∀ (n a b : Nat), a + b ≤ n → dist l a b ≤ max a b := by
  intro n
  induction n with
  | zero => intro a b h; have e : a = b := by omega
            rw [e, dist_self]; omega
  | succ n ih =>
    intro a b h
    rcases Nat.lt_trichotomy a b with h1 | h1 | h1
    · rw [dist_lt h1]; have := par_le l b; have := ih (par l b) a (by omega); omega
    · rw [h1, dist_self]; omega
    · rw [dist_gt h1]; have := par_le l a; have := ih (par l a) b (by omega); omega
theorem dist_zero {l : List Int} {a b : Nat} (h : dist l a b = 0) : a = b := by
  rcases Nat.lt_trichotomy a b with h1 | h1 | h1
  · rw [dist_lt h1] at h; omega
  · exact h1
  · rw [dist_gt h1] at h; omega
theorem step_le {l : List Int} {a b : Nat} (h : b ≤ a) : step l a b = par l a := by rw [step, if_pos h]
theorem step_kid {l : List Int} {a b : Nat} (h : a < b) (hp : par l b = a) : step l a b = b := by rw [step, if_neg (by omega), if_pos hp]
theorem step_up {l : List Int} {a b : Nat} (h : a < b) (hp : par l b ≠ a) : step l a b = step l a (par l b) := by rw [step, if_neg (by omega), if_neg hp]
/-- A link: whoever is beyond it is one nearer from one end than from the other one. -/
theorem edge (l : List Int) {x : Nat} (hx : 0 < x) : ∀ a : Nat, (dist l (par l x) a = dist l x a + 1 ∧ step l (par l x) a = x) ∨ (dist l x a = dist l (par l x) a + 1 ∧ step l x a = par l x) := by
  have hp := par_le l x
  intro a
  induction a using Nat.strongRecOn with
  | _ a ih =>
    rcases Nat.lt_trichotomy a x with h | h | h
    · exact .inr ⟨dist_gt h, step_le (by omega)⟩
    · subst h
      exact .inl ⟨by rw [dist_lt (by omega), dist_self, dist_self], step_kid (by omega) rfl⟩
    · have hq := par_le l a
      have e1 : dist l x a = dist l x (par l a) + 1 := by rw [dist_lt h, dist_comm]
      have e2 : dist l (par l x) a = dist l (par l x) (par l a) + 1 := by rw [dist_lt (by omega), dist_comm]
      rcases ih (par l a) (by omega) with ⟨i1, i2⟩ | ⟨i1, i2⟩
      · have hn : par l a ≠ par l x := by intro e; rw [e, dist_self] at i1; omega
        exact .inl ⟨by omega, by rw [step_up (by omega) hn]; exact i2⟩
      · have hn : par l a ≠ x := by intro e; rw [e, dist_self] at i1; omega
        exact .inr ⟨by omega, by rw [step_up h hn]; exact i2⟩
/-- Two brokers between which there is a link. -/
def near (l : List Int) (a b : Nat) : Prop := (0 < a ∧ par l a = b) ∨ (0 < b ∧ par l b = a)
theorem near_dist {l : List Int} {a b : Nat} (h : near l a b) (c : Nat) : dist l b c ≤ dist l a c + 1 ∧ dist l a c ≤ dist l b c + 1 ∧ (dist l b c + 1 = dist l a c → step l a c = b) := by
  rcases h with ⟨h, rfl⟩ | ⟨h, rfl⟩
  · rcases edge l h c with ⟨i1, i2⟩ | ⟨i1, i2⟩
    · exact ⟨by omega, by omega, by omega⟩
    · exact ⟨by omega, by omega, fun _ => i2⟩
  · rcases edge l h c with ⟨i1, i2⟩ | ⟨i1, i2⟩
    · exact ⟨by omega, by omega, fun _ => i2⟩
    · exact ⟨by omega, by omega, by omega⟩
/-- The next one is near, nearer by one, and no greater than the two. -/
theorem step_near (l : List Int) {a : Nat} : ∀ {b : Nat}, a ≠ b → near l a (step l a b) ∧ dist l (step l a b) b + 1 = dist l a b ∧ step l a b ≤ max a b := by
  intro b
  induction b using Nat.strongRecOn with
  | _ b ih =>
    intro hab
    by_cases h : b ≤ a
    · have hlt : b < a := by omega
      rw [step_le h, dist_gt hlt]
      have := par_le l a
      exact ⟨.inl ⟨by omega, rfl⟩, rfl, by omega⟩
    · by_cases hp : par l b = a
      · rw [step_kid (by omega) hp]
        refine ⟨.inr ⟨by omega, hp⟩, ?_, by omega⟩
        rw [dist_self, dist_lt (by omega), hp, dist_self]
      · have hq := par_le l b
        obtain ⟨i1, i2, i3⟩ := ih (par l b) (by omega) (fun e => hp e.symm)
        rw [step_up (by omega) hp]
        refine ⟨i1, ?_, by omega⟩
        have h0 : a < b := by omega
        have : step l a (par l b) < b := by omega
        rw [dist_lt h0, dist_comm l (par l b) a, ← i2, dist_lt this, dist_comm l (par l b)]
theorem near_ne {l : List Int} {a b : Nat} (h : near l a b) : a ≠ b := by
  rcases h with ⟨h, rfl⟩ | ⟨h, rfl⟩
  · have := par_le l a; omega
  · have := par_le l b; omega
theorem near_symm {l : List Int} {a b : Nat} (h : near l a b) : near l b a := h.symm
/-- Near is at distance one, and only so. -/
theorem near_iff {l : List Int} {a b : Nat} : near l a b ↔ dist l a b = 1 := by
  constructor
  · rintro (⟨h, rfl⟩ | ⟨h, rfl⟩)
    · have := par_le l a
      have h1 : par l a < a := by omega
      rw [dist_gt h1, dist_self]
    · have := par_le l b
      have h1 : par l b < b := by omega
      rw [dist_lt h1, dist_self]
  · intro h
    rcases Nat.lt_trichotomy a b with h1 | h1 | h1
    · rw [dist_lt h1] at h; exact .inr ⟨by omega, dist_zero (Nat.succ.inj h)⟩
    · rw [h1, dist_self] at h; cases h
    · rw [dist_gt h1] at h; exact .inl ⟨by omega, dist_zero (Nat.succ.inj h)⟩
theorem way_self (l : List Int) (a : Nat) : way l a a = [a] := by rw [way]; simp
theorem way_lt {l : List Int} {a b : Nat} (h : a < b) : way l a b = way l a (par l b) ++ [b] := by rw [way, if_neg (by omega), if_pos h]
theorem way_gt {l : List Int} {a b : Nat} (h : b < a) : way l a b = a :: way l (par l a) b := by rw [way, if_neg (by omega), if_neg (by omega)]
theorem way_facts (l : List Int) : ∀ (n a b : Nat), a + b ≤ n → (way l a b).length = dist l a b + 1 ∧ (way l a b)[0]? = some a ∧ (a ≠ b → (way l a b)[1]? = some (step l a b)) := by
  intro n
  induction n with
  | zero => intro a b h; have e : a = b := by omega
            subst e; rw [way_self, dist_self]; simp
  | succ n ih =>
    intro a b h
    rcases Nat.lt_trichotomy a b with h1 | h1 | h1
    · have hq := par_le l b
      obtain ⟨i1, i2, i3⟩ := ih a (par l b) (by omega)
      rw [way_lt h1, dist_lt h1, dist_comm l (par l b) a]
      refine ⟨by rw [List.length_append, i1]; rfl, by rw [List.getElem?_append_left (by omega)]; exact i2, fun _ => ?_⟩
      by_cases hp : par l b = a
      · rw [hp, way_self, step_kid h1 hp]; rfl
      · have : 0 < dist l a (par l b) := by
          rcases Nat.eq_zero_or_pos (dist l a (par l b)) with h0 | h0
          · exact absurd (dist_zero h0).symm hp
          · exact h0
        rw [step_up h1 hp, List.getElem?_append_left (by omega)]
        exact i3 (fun e => hp e.symm)
    · subst h1; rw [way_self, dist_self]; simp
    · have hq := par_le l a
      obtain ⟨i1, i2, i3⟩ := ih (par l a) b (by omega)
      rw [way_gt h1, dist_gt h1]
      refine ⟨by rw [List.length_cons, i1], rfl, fun _ => ?_⟩
      rw [step_le (by omega), List.getElem?_cons_succ]
      exact i2
/-- What the document's loop leaves of two ways up. -/
def wayCut (x y : List Nat) : Nat → Nat → List Nat
  | m + 2, n + 2 => if x.getD m 0 = y.getD n 0 then wayCut x y (m + 1) (n + 1) else x.take (m + 2) ++ (y.take (n + 1)).reverse
  | m, n => x.take m ++ (y.take (n - 1)).reverse
theorem wayCut_one (x y : List Nat) (n : Nat) : wayCut x y 1 n = x.take 1 ++ (y.take (n - 1)).reverse := by
  match n with
  | 0 => simp [wayCut]
  | 1 => simp [wayCut]
  | n + 2 => simp [wayCut]
theorem wayCut_one' (x y : List Nat) (m : Nat) : wayCut x y m 1 = x.take m := by
  match m with
  | 0 => simp [wayCut]
  | 1 => simp [wayCut]
  | m + 2 => simp [wayCut]
theorem wayCut_left {a : Nat} {x y : List Nat} (ha : a ∉ y) : ∀ (m n : Nat), n + 1 ≤ y.length → wayCut (a :: x) y (m + 2) (n + 1) = a :: wayCut x y (m + 1) (n + 1) := by
  intro m
  induction m with
  | zero =>
    intro n hn
    cases n with
    | zero => rw [wayCut_one', wayCut_one']; rfl
    | succ n =>
      have hne : ¬ (a :: x).getD 0 0 = y.getD n 0 := by
        have hy : y.getD n 0 ∈ y := by
          rw [List.getD_eq_getElem?_getD, List.getElem?_eq_getElem (by omega)]
          exact List.getElem_mem _
        intro e
        exact ha (by rw [← e] at hy; exact hy)
      rw [wayCut_one, wayCut, if_neg hne]; rfl
  | succ m ih =>
    intro n hn
    cases n with
    | zero => rw [wayCut_one', wayCut_one']; rfl
    | succ n =>
      have e : (a :: x).getD (m + 1) 0 = x.getD m 0 := rfl
      rw [wayCut, wayCut, e]
      split
      · exact ih n (by omega)
      · rfl
theorem wayCut_right {b : Nat} {x y : List Nat} (hb : b ∉ x) : ∀ (n m : Nat), m + 1 ≤ x.length → n + 1 ≤ y.length → wayCut x (b :: y) (m + 1) (n + 2) = wayCut x y (m + 1) (n + 1) ++ [b] := by
  intro n
  induction n with
  | zero =>
    intro m hm _
    cases m with
    | zero => rw [wayCut_one, wayCut_one]; simp
    | succ m =>
      have hne : ¬ x.getD m 0 = (b :: y).getD 0 0 := by
        have hy : x.getD m 0 ∈ x := by
          rw [List.getD_eq_getElem?_getD, List.getElem?_eq_getElem (by omega)]
          exact List.getElem_mem _
        intro e
        exact hb (by rw [e] at hy; exact hy)
      rw [wayCut_one', wayCut, if_neg hne]; simp
  | succ n ih =>
    intro m hm hn
    cases m with
    | zero =>
      rw [wayCut_one, wayCut_one]
      have e : n + 1 + 2 - 1 = (n + 1) + 1 := by omega
      have e2 : n + 1 + 1 - 1 = n + 1 := by omega
      rw [e, e2]
      simp
    | succ m =>
      have e : (b :: y).getD (n + 1) 0 = y.getD n 0 := rfl
      rw [wayCut, wayCut, e]
      split
      · exact ih m (by omega) (by omega)
      · rw [List.take_succ_cons, List.reverse_cons, List.append_assoc]
theorem up_zero (l : List Int) : up l 0 = [0] := by rw [up]; simp
theorem up_pos {l : List Int} {b : Nat} (h : 0 < b) : up l b = b :: up l (par l b) := by
  conv => lhs; rw [up, if_neg (show ¬ b = 0 by omega)]
theorem up_len (l : List Int) (b : Nat) : 0 < (up l b).length := by
  rw [up]; simp
theorem up_le (l : List Int) : ∀ (b x : Nat), x ∈ up l b → x ≤ b := by
  intro b
  induction b using Nat.strongRecOn with
  | _ b ih =>
    intro x hx
    by_cases h : b = 0
    · subst h; rw [up_zero] at hx; simp at hx; omega
    · rw [up_pos (by omega)] at hx
      have hq := par_le l b
      rcases List.mem_cons.1 hx with rfl | hx
      · exact Nat.le_refl _
      · have := ih _ (by omega) x hx; omega
theorem up_few (l : List Int) : ∀ (b : Nat), (up l b).length ≤ b + 1 := by
  intro b
  induction b using Nat.strongRecOn with
  | _ b ih =>
    by_cases h : b = 0
    · subst h; rw [up_zero]; simp
    · have hq := par_le l b
      have := ih (par l b) (by omega)
      rw [up_pos (by omega), List.length_cons]; omega
theorem wayCut_same (x : List Nat) : ∀ m, wayCut x x (m + 1) (m + 1) = x.take 1 := by
  intro m
  induction m with
  | zero => rw [wayCut_one]; simp
  | succ m ih => rw [wayCut, if_pos rfl]; exact ih
/-- The document's way is the way. -/
theorem way_cut (l : List Int) : ∀ (n a b : Nat), a + b ≤ n → wayCut (up l a) (up l b) (up l a).length (up l b).length = way l a b := by
  intro n
  induction n with
  | zero => intro a b h; have e : a = b := by omega
            have e2 : a = 0 := by omega
            subst e; subst e2
            rw [up_zero, way_self]; rfl
  | succ n ih =>
    intro a b h
    have la := up_len l a
    have lb := up_len l b
    rcases Nat.lt_trichotomy a b with h1 | h1 | h1
    · have hq := par_le l b
      have hb : b ∉ up l a := fun hm => by have := up_le l a b hm; omega
      have lp := up_len l (par l b)
      rw [way_lt h1, ← ih a (par l b) (by omega), up_pos (b := b) (by omega), List.length_cons]
      obtain ⟨m, hm⟩ : ∃ m, (up l a).length = m + 1 := ⟨(up l a).length - 1, by omega⟩
      obtain ⟨k, hk⟩ : ∃ k, (up l (par l b)).length = k + 1 := ⟨(up l (par l b)).length - 1, by omega⟩
      rw [hm, hk]
      exact wayCut_right hb k m (by omega) (by omega)
    · subst h1
      obtain ⟨m, hm⟩ : ∃ m, (up l a).length = m + 1 := ⟨(up l a).length - 1, by omega⟩
      rw [hm, wayCut_same, way_self, up]; rfl
    · have hq := par_le l a
      have hb : a ∉ up l b := fun hm => by have := up_le l b a hm; omega
      have lp := up_len l (par l a)
      rw [way_gt h1, ← ih (par l a) b (by omega), up_pos (b := a) (by omega), List.length_cons]
      obtain ⟨m, hm⟩ : ∃ m, (up l b).length = m + 1 := ⟨(up l b).length - 1, by omega⟩
      obtain ⟨k, hk⟩ : ∃ k, (up l (par l a)).length = k + 1 := ⟨(up l (par l a)).length - 1, by omega⟩
      rw [hm, hk]
      exact wayCut_left hb k m (by omega)
end Tr
end Go.Proofs.Ytegkphbnedbgfaa
namespace Go.Proofs.Ytegkphbnedbgfaa.Tr
theorem has_bad {l q : List Int} {k : Nat} {b : Int} (h : q[k]? = some b) (hb : ¬ (0 ≤ b ∧ b ≤ (l.length : Int))) : has l q = false := by
  have : q.all (fun b => decide (0 ≤ b) && decide (b ≤ (l.length : Int))) = false := by
    rw [List.all_eq_false]
    exact ⟨b, List.mem_of_getElem? h, by simp only [Bool.and_eq_true, decide_eq_true_eq]; exact hb⟩
  unfold has; rw [this, Bool.and_false]
theorem has_right {l q : List Int} (h : has l q = true) : right l = true := by
  unfold has at h; simp only [Bool.and_eq_true] at h; exact h.1
theorem has_get {l q : List Int} (h : has l q = true) {k : Nat} {b : Int} (hb : q[k]? = some b) : 0 ≤ b ∧ b ≤ (l.length : Int) := by
  unfold has at h; simp only [Bool.and_eq_true, List.all_eq_true, decide_eq_true_eq] at h
  exact h.2 b (List.mem_of_getElem? hb)
theorem has_iff {l q : List Int} : has l q = true ↔ right l = true ∧ ∀ b ∈ q, 0 ≤ b ∧ b ≤ (l.length : Int) := by
  unfold has; simp only [Bool.and_eq_true, List.all_eq_true, decide_eq_true_eq]
/-- All Dists from b, added. -/
def far (l : List Int) (b : Nat) (q : List Int) : Nat := (q.map fun x => dist l b x.toNat).sum
theorem far_cons (l : List Int) (b : Nat) (x : Int) (q : List Int) : far l b (x :: q) = dist l b x.toNat + far l b q := by simp [far]
theorem far_drop {l q : List Int} {b k : Nat} {x : Int} (h : q[k]? = some x) : far l b (q.drop k) = dist l b x.toNat + far l b (q.drop (k + 1)) := by
  obtain ⟨hk, he⟩ := List.getElem?_eq_some_iff.1 h
  rw [List.drop_eq_getElem_cons hk, he, far_cons]
theorem par_lt {l : List Int} {b : Nat} (h : 0 < b) : par l b < b := by have := par_le l b; omega
end Go.Proofs.Ytegkphbnedbgfaa.Tr
namespace Go.Proofs.Ytegkphbnedbgfaa.Tr
/-- Two rising rows that hold the same are one. -/
theorem rising_eq : ∀ {x y : List Nat}, x.Pairwise (· < ·) → y.Pairwise (· < ·) → (∀ a, a ∈ x ↔ a ∈ y) → x = y
  | [], [], _, _, _ => rfl
  | [], b :: y, _, _, h => absurd ((h b).2 (List.mem_cons_self ..)) (by simp)
  | a :: x, [], _, _, h => absurd ((h a).1 (List.mem_cons_self ..)) (by simp)
  | a :: x, b :: y, hx, hy, h => by
    obtain ⟨hx1, hx2⟩ := List.pairwise_cons.1 hx
    obtain ⟨hy1, hy2⟩ := List.pairwise_cons.1 hy
    have e : a = b := by
      rcases List.mem_cons.1 ((h a).1 (List.mem_cons_self ..)) with e | e
      · exact e
      · rcases List.mem_cons.1 ((h b).2 (List.mem_cons_self ..)) with e2 | e2
        · exact e2.symm
        · have := hx1 _ e2; have := hy1 _ e; omega
    subst e
    congr 1
    refine rising_eq hx2 hy2 fun c => ⟨fun hc => ?_, fun hc => ?_⟩
    · rcases List.mem_cons.1 ((h c).1 (List.mem_cons_of_mem _ hc)) with e | e
      · subst e; have := hx1 _ hc; omega
      · exact e
    · rcases List.mem_cons.1 ((h c).2 (List.mem_cons_of_mem _ hc)) with e | e
      · subst e; have := hy1 _ hc; omega
      · exact e
/-- Those below k of which f holds, rising. -/
def chosen (f : Nat → Bool) (k : Nat) : List Nat := (List.range k).filter f
theorem chosen_yes {f : Nat → Bool} {k : Nat} (h : f k = true) : chosen f (k + 1) = chosen f k ++ [k] := by
  unfold chosen; rw [List.range_succ, List.filter_append, List.filter_cons, h]; rfl
theorem chosen_no {f : Nat → Bool} {k : Nat} (h : f k = false) : chosen f (k + 1) = chosen f k := by
  unfold chosen; rw [List.range_succ, List.filter_append, List.filter_cons, h]; simp
theorem mem_chosen {f : Nat → Bool} {k x : Nat} : x ∈ chosen f k ↔ x < k ∧ f x = true := by
  unfold chosen; rw [List.mem_filter, List.mem_range]
theorem chosen_rising (f : Nat → Bool) (k : Nat) : (chosen f k).Pairwise (· < ·) := List.Pairwise.filter _ List.pairwise_lt_range
theorem chosen_few (f : Nat → Bool) (k : Nat) : (chosen f k).length ≤ k := by
  unfold chosen; have := List.length_filter_le f (List.range k); rw [List.length_range] at this; exact this
theorem chosen_congr {f g : Nat → Bool} {k : Nat} (h : ∀ x, x < k → f x = g x) : chosen f k = chosen g k := by
  unfold chosen; exact List.filter_congr fun x hx => h x (List.mem_range.1 hx)
def ints (x : List Nat) : List Int := x.map fun n : Nat => (n : Int)
theorem ints_append (x y : List Nat) : ints (x ++ y) = ints x ++ ints y := List.map_append ..
theorem ints_len (x : List Nat) : (ints x).length = x.length := List.length_map ..
theorem ints_get (x : List Nat) (i : Nat) : (ints x)[i]? = x[i]?.map fun n : Nat => (n : Int) := List.getElem?_map ..
/-- Kids, of a broker that is one. -/
def kidsN (l : List Int) (b : Nat) (k : Nat) : List Nat := (chosen (fun i => par l (i + 1) == b) k).map (· + 1)
def sideN (l : List Int) (b n : Nat) (k : Nat) : List Nat := chosen (fun x => (x != b) && (step l b x == n)) k
def nearN (l : List Int) (b : Nat) : List Nat := (if 0 < b then [par l b] else []) ++ kidsN l b l.length
theorem kidsN_yes {l : List Int} {b k : Nat} (h : par l (k + 1) = b) : kidsN l b (k + 1) = kidsN l b k ++ [k + 1] := by
  unfold kidsN; rw [chosen_yes (by simp [h]), List.map_append]; rfl
theorem kidsN_no {l : List Int} {b k : Nat} (h : ¬ par l (k + 1) = b) : kidsN l b (k + 1) = kidsN l b k := by
  unfold kidsN; rw [chosen_no (by simp [h])]
theorem mem_kids {l : List Int} {b k x : Nat} : x ∈ kidsN l b k ↔ 0 < x ∧ x ≤ k ∧ par l x = b := by
  unfold kidsN
  simp only [List.mem_map, mem_chosen, beq_iff_eq]
  constructor
  · rintro ⟨i, ⟨h1, h2⟩, rfl⟩; exact ⟨by omega, by omega, h2⟩
  · rintro ⟨h1, h2, h3⟩; exact ⟨x - 1, ⟨by omega, by rw [show x - 1 + 1 = x by omega]; exact h3⟩, by omega⟩
theorem kids_rising (l : List Int) (b k : Nat) : (kidsN l b k).Pairwise (· < ·) := by
  unfold kidsN; rw [List.pairwise_map]; exact (chosen_rising _ _).imp fun h => by omega
theorem kids_few (l : List Int) (b k : Nat) : (kidsN l b k).length ≤ k := by unfold kidsN; rw [List.length_map]; exact chosen_few _ _
theorem near_rising (l : List Int) (b : Nat) : (nearN l b).Pairwise (· < ·) := by
  unfold nearN
  rw [List.pairwise_append]
  refine ⟨by split <;> simp, kids_rising _ _ _, ?_⟩
  intro x hx y hy
  split at hx
  · rename_i hb
    rw [List.mem_singleton.1 hx]
    have h1 := par_lt (l := l) hb
    obtain ⟨y0, -, e⟩ := mem_kids.1 hy
    have := par_lt (l := l) y0
    omega
  · cases hx
theorem mem_near {l : List Int} {b x : Nat} (hb : b ≤ l.length) : x ∈ nearN l b ↔ x ≤ l.length ∧ near l b x := by
  unfold nearN near
  rw [List.mem_append, mem_kids]
  constructor
  · rintro (h | ⟨h1, h2, h3⟩)
    · split at h
      · rename_i h0
        rw [List.mem_singleton.1 h]
        have := par_lt (l := l) h0
        exact ⟨by omega, .inl ⟨h0, rfl⟩⟩
      · cases h
    · exact ⟨h2, .inr ⟨h1, h3⟩⟩
  · rintro ⟨h0, (⟨h1, rfl⟩ | ⟨h1, h2⟩)⟩
    · left; rw [if_pos h1]; exact List.mem_singleton.2 rfl
    · exact .inr ⟨h1, h0, h2⟩
/-- The document's Near is the same. -/
theorem near_chosen {l : List Int} {b : Nat} (hb : b ≤ l.length) : chosen (fun x => dist l b x == 1) (l.length + 1) = nearN l b := by
  refine rising_eq (chosen_rising _ _) (near_rising _ _) fun a => ?_
  rw [mem_chosen, mem_near hb, beq_iff_eq, near_iff]
  omega
/-- The answers, of any numbers. -/
def kids (l : List Int) (b : Int) : List Int := if has l [b] then ints (kidsN l b.toNat l.length) else []
def nears (l : List Int) (b : Int) : List Int := if has l [b] then ints (nearN l b.toNat) else []
def side (l : List Int) (b n : Int) : List Int := if has l [b, n] then ints (sideN l b.toNat n.toNat (l.length + 1)) else []
def next (l : List Int) (a b : Int) : Int := if has l [a, b] ∧ a ≠ b then (step l a.toNat b.toNat : Int) else -1
def dists (l : List Int) (a b : Int) : Int := if has l [a, b] then (dist l a.toNat b.toNat : Int) else -1
/-- The place, of those below k: k is one at least. -/
def least (f : Nat → Nat) : Nat → Nat
  | 0 => 0
  | k + 1 => if f (k + 1) < f (least f k) then k + 1 else least f k
def place (l q : List Int) : Int := if has l q ∧ q ≠ [] then (least (fun b => far l b q) l.length : Int) else -1
theorem least_le (f : Nat → Nat) : ∀ k, least f k ≤ k ∧ (∀ x, x ≤ k → f (least f k) ≤ f x) ∧ ∀ x, x < least f k → f (least f k) < f x := by
  intro k
  induction k with
  | zero => refine ⟨Nat.le_refl _, fun x hx => ?_, fun x hx => ?_⟩
            · rw [show x = 0 by omega]; exact Nat.le_refl _
            · simp [least] at hx
  | succ k ih =>
    obtain ⟨h1, h2, h3⟩ := ih
    unfold least
    split
    · rename_i h
      refine ⟨Nat.le_refl _, fun x hx => ?_, fun x hx => ?_⟩
      · by_cases e : x = k + 1
        · rw [e]; exact Nat.le_refl _
        · have := h2 x (by omega); omega
      · have := h2 x (by omega); omega
    · rename_i h
      refine ⟨by omega, fun x hx => ?_, h3⟩
      by_cases e : x = k + 1
      · rw [e]; omega
      · exact h2 x (by omega)
end Go.Proofs.Ytegkphbnedbgfaa.Tr
