/- TrapPlays: the plain game: what steps do, said without Go. -/
namespace Go.Proofs.Ytbfgpbjckkhljaa

/-- How far, what was marked, how it ended: 0, an error, 50 and more. -/
abbrev Res := Nat × List Int × Int

/-- One step: what it ends with, if it ends; how far; what is marked. -/
def one (f : Nat → Int × Int) (sub : Option (Nat → List Int → Res)) (at' : Nat) (log : List Int) : Option Int × Nat × List Int :=
  if (f at').1 = 3 then
    match sub with
    | some s => if 50 ≤ (s (at' + 1) log).2.2 then (some (s (at' + 1) log).2.2, (s (at' + 1) log).1, (s (at' + 1) log).2.1)
        else (none, (s (at' + 1) log).1, (s (at' + 1) log).2.1 ++ [100 + (s (at' + 1) log).2.2])
    | none => (none, at' + 1, log)
  else if (f at').1 = 4 then
    match sub with
    | some s =>
      if (s (at' + 1) log).2.2 = 0 then
        if 50 ≤ (s (s (at' + 1) log).1 (s (at' + 1) log).2.1).2.2 then
          (some (s (s (at' + 1) log).1 (s (at' + 1) log).2.1).2.2, (s (s (at' + 1) log).1 (s (at' + 1) log).2.1).1, (s (s (at' + 1) log).1 (s (at' + 1) log).2.1).2.1)
        else if (s (s (at' + 1) log).1 (s (at' + 1) log).2.1).2.2 = 0 then
          (none, (s (s (at' + 1) log).1 (s (at' + 1) log).2.1).1, (s (s (at' + 1) log).1 (s (at' + 1) log).2.1).2.1 ++ [220])
        else
          (none, (s (s (at' + 1) log).1 (s (at' + 1) log).2.1).1, (s (s (at' + 1) log).1 (s (at' + 1) log).2.1).2.1 ++ [210 + (s (s (at' + 1) log).1 (s (at' + 1) log).2.1).2.2])
      else if 50 ≤ (s (at' + 1) log).2.2 then (some (s (at' + 1) log).2.2, (s (at' + 1) log).1, (s (at' + 1) log).2.1)
      else (none, (s (at' + 1) log).1, (s (at' + 1) log).2.1 ++ [200 + (s (at' + 1) log).2.2])
    | none => (none, at' + 1, log)
  else if (f at').1 = 5 then (some 0, at' + 1, log)
  else if (f at').1 = 6 then (if 0 < (f at').2 then (some (f at').2, at' + 1, log) else (none, at' + 1, log))
  else if (f at').1 = 7 then (if (f at').2 % 2 = 1 then (some (f at').2, at' + 1, log) else (none, at' + 1, log))
  else if (f at').1 = 8 then (some (50 + (f at').2), at' + 1, log)
  else (none, at' + 1, log ++ [(f at').2])

def rounds' (f : Nat → Int × Int) (n : Nat) (sub : Option (Nat → List Int → Res)) : Nat → Nat → List Int → Res
  | 0, at', log => (at', log, 0)
  | k + 1, at', log =>
    if at' < n then
      match one f sub at' log with
      | (some o, a, l) => (a, l, o)
      | (none, a, l) => rounds' f n sub k a l
    else (at', log, 0)

def lvl (f : Nat → Int × Int) (n : Nat) : Nat → Nat → List Int → Res
  | 0 => rounds' f n none (n + 1)
  | d + 1 => rounds' f n (some (lvl f n d)) (n + 1)

def OutOk (o : Int) : Prop := (0 ≤ o ∧ o ≤ 8) ∨ (50 ≤ o ∧ o ≤ 58)

structure GoodRes (n a k : Nat) (r : Res) : Prop where
  ge : a ≤ r.1
  le : r.1 ≤ n
  len : r.2.1.length + a ≤ r.1 + k
  out : OutOk r.2.2

def GoodSub (n : Nat) (s : Nat → List Int → Res) : Prop := ∀ a log, a ≤ n → GoodRes n a log.length (s a log)

structure Steps' (f : Nat → Int × Int) : Prop where
  w0 : ∀ i, 0 ≤ (f i).1 ∧ (f i).1 ≤ 8
  n0 : ∀ i, 0 ≤ (f i).2 ∧ (f i).2 ≤ 8

structure GoodOne (n a k : Nat) (r : Option Int × Nat × List Int) : Prop where
  ge : a + 1 ≤ r.2.1
  le : r.2.1 ≤ n
  len : r.2.2.length + a ≤ r.2.1 + k
  out : ∀ o, r.1 = some o → OutOk o

theorem GoodOne.stop {n a k x y : Nat} {l : List Int} {o : Int} (h1 : a + 1 ≤ x) (h2 : x ≤ n) (h3 : l.length + a ≤ x + k) (h4 : OutOk o) (_ : y = x) : GoodOne n a k (some o, x, l) :=
  ⟨h1, h2, h3, fun o' ho => by cases ho; exact h4⟩
theorem GoodOne.go {n a k x : Nat} {l : List Int} (h1 : a + 1 ≤ x) (h2 : x ≤ n) (h3 : l.length + a ≤ x + k) : GoodOne n a k (none, x, l) :=
  ⟨h1, h2, h3, fun o' ho => by cases ho⟩

theorem one_good {f : Nat → Int × Int} {n : Nat} (hf : Steps' f) (sub : Option (Nat → List Int → Res)) (hs : ∀ s, sub = some s → GoodSub n s) (a : Nat) (log : List Int) (ha : a < n) :
    GoodOne n a log.length (one f sub a log) := by
  have h1 := hf.w0 a
  have h2 := hf.n0 a
  unfold one
  split
  · cases sub with
    | none => exact .go (by omega) (by omega) (by omega)
    | some s =>
      have g := hs s rfl (a + 1) log (by omega)
      have := g.ge; have := g.le; have := g.len; have := g.out
      dsimp only
      split
      · exact .stop (by omega) (by omega) (by omega) this rfl
      · exact .go (by omega) (by omega) (by simp; omega)
  split
  · cases sub with
    | none => exact .go (by omega) (by omega) (by omega)
    | some s =>
      have g := hs s rfl (a + 1) log (by omega)
      have := g.ge; have := g.le; have := g.len; have go := g.out
      have q := hs s rfl (s (a + 1) log).1 (s (a + 1) log).2.1 g.le
      have := q.ge; have := q.le; have := q.len; have qo := q.out
      dsimp only
      split
      · split
        · exact .stop (by omega) (by omega) (by omega) qo rfl
        · split
          · exact .go (by omega) (by omega) (by simp; omega)
          · exact .go (by omega) (by omega) (by simp; omega)
      · split
        · exact .stop (by omega) (by omega) (by omega) go rfl
        · exact .go (by omega) (by omega) (by simp; omega)
  split
  · exact .stop (by omega) (by omega) (by omega) (.inl ⟨by omega, by omega⟩) rfl
  split
  · split
    · exact .stop (by omega) (by omega) (by omega) (.inl ⟨by omega, by omega⟩) rfl
    · exact .go (by omega) (by omega) (by omega)
  split
  · split
    · exact .stop (by omega) (by omega) (by omega) (.inl ⟨by omega, by omega⟩) rfl
    · exact .go (by omega) (by omega) (by omega)
  split
  · exact .stop (by omega) (by omega) (by omega) (.inr ⟨by omega, by omega⟩) rfl
  · exact .go (by omega) (by omega) (by simp; omega)

theorem rounds_good {f : Nat → Int × Int} {n : Nat} (hf : Steps' f) (sub : Option (Nat → List Int → Res)) (hs : ∀ s, sub = some s → GoodSub n s) : ∀ (k a : Nat) (log : List Int), a ≤ n → GoodRes n a log.length (rounds' f n sub k a log) := by
  intro k
  induction k with
  | zero => intro a log ha; exact ⟨Nat.le_refl _, ha, by simp [rounds']; omega, .inl ⟨by simp [rounds'], by simp [rounds']⟩⟩
  | succ k ih =>
    intro a log ha
    simp only [rounds']
    split
    · rename_i hlt
      have g := one_good hf sub hs a log hlt
      generalize hr : one f sub a log = r at g
      obtain ⟨o, x, l⟩ := r
      have := g.ge; have := g.le; have := g.len
      simp only at *
      cases o with
      | some o =>
        show GoodRes n a log.length (x, l, o)
        exact ⟨by simp; omega, by simp; omega, by simp; omega, g.out o rfl⟩
      | none =>
        show GoodRes n a log.length (rounds' f n sub k x l)
        have q := ih x l (by omega)
        have := q.ge; have := q.le; have := q.len
        exact ⟨by omega, by omega, by omega, q.out⟩
    · exact ⟨Nat.le_refl _, ha, by simp; omega, .inl ⟨by simp, by simp⟩⟩

theorem lvl_good {f : Nat → Int × Int} {n : Nat} (hf : Steps' f) : ∀ d, GoodSub n (lvl f n d)
  | 0 => fun a log ha => rounds_good hf none (by simp) _ a log ha
  | d + 1 => fun a log ha => rounds_good hf (some (lvl f n d)) (fun s h => by cases h; exact lvl_good hf d) _ a log ha

end Go.Proofs.Ytbfgpbjckkhljaa
