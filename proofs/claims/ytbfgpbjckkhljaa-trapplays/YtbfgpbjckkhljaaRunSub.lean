/- TrapPlays: run's calls of Run and Each. -/
import Derived.Test.YtbfgpbjckkhljaaWant
namespace Go.Proofs.Ytbfgpbjckkhljaa
open Go.RowKit

/-- How a function ends whose steps end with o. -/
def outOf (o : Int) : Out := if o = 0 then .ok else if o < 50 then .err o else .other 3 (.int .i64 (o - 50))

def RunC (g : Arg) (s : Nat → List Int → Res) (deep : Int) : Prop := ∀ (A base : Nat) (v : Value) (a : Nat) (log : List Int) (W : World), PL g A base v a log W → a ≤ min g.len 50 → log.length ≤ a →
  Calls Try.prog 21 #[.pointer (some ⟨A, 0, none⟩), .int .i64 deep] W fun e W' => Ends (outOf (s a log).2.2) e ∧ ∃ v', PL g A base v' (s a log).1 (s a log).2.1 W' ∧ Went A v v' W W'

theorem f37 (g : Arg) (s : Nat → List Int → Res) (deep : Int) (hC : RunC g s (deep + 1)) (A base b2 b3 : Nat) (v : Value) (a : Nat) (log : List Int) (W : World) (h : PL g A base v a log W) (ha : a ≤ min g.len 50) (hl : log.length ≤ a)
    (h2 : W.cell? ⟨b2, 0, none⟩ = some (.pointer (some ⟨A, 0, none⟩))) (h3 : W.cell? ⟨b3, 0, none⟩ = some (.int .i64 deep)) (d0 : 0 ≤ deep) (d5 : deep < 5) :
    Calls Try.prog 37 #[.pointer (some ⟨b2, 0, none⟩), .pointer (some ⟨b3, 0, none⟩)] W fun e W' => Ends (outOf (s a log).2.2) e ∧ ∃ v', PL g A base v' (s a log).1 (s a log).2.1 W' ∧ Went A v v' W W' := by
  have hR := hC A base v a log W h ha hl
  clear hC h ha hl
  go_enter Try.func37, Try.ntmps37
  go_wp2_with fail
  refine hR.mono ?_
  rintro e w' ⟨he, hP⟩
  have HP := Lib.hid hP
  clear hR hP
  have HE := Lib.hid he
  cases ho : outOf (s a log).2.2 with
  | ok =>
    rw [ho] at he
    obtain ⟨v1, rfl⟩ := he
    have HO := Lib.hid ho
    clear ho
    go_wp2
    go_end0
    exact ⟨by rw [HO.out]; exact ⟨_, rfl⟩, HP.out⟩
  | err n =>
    rw [ho] at he
    obtain ⟨c, rfl, hc⟩ := he
    exact ⟨rfl, HE.out, HP.out⟩
  | other u x =>
    rw [ho] at he
    obtain ⟨hu, c, rfl, hc⟩ := he
    exact ⟨rfl, HE.out, HP.out⟩

theorem f38 (g : Arg) (s : Nat → List Int → Res) (deep : Int) (hC : RunC g s (deep + 1)) (A base b2 b3 : Nat) (v : Value) (a : Nat) (log : List Int) (W : World) (h : PL g A base v a log W) (ha : a ≤ min g.len 50) (hl : log.length ≤ a)
    (h2 : W.cell? ⟨b2, 0, none⟩ = some (.pointer (some ⟨A, 0, none⟩))) (h3 : W.cell? ⟨b3, 0, none⟩ = some (.int .i64 deep)) (d0 : 0 ≤ deep) (d5 : deep < 5) :
    Calls Try.prog 38 #[.pointer (some ⟨b2, 0, none⟩), .pointer (some ⟨b3, 0, none⟩)] W fun e W' => Ends (outOf (s a log).2.2) e ∧ ∃ v', PL g A base v' (s a log).1 (s a log).2.1 W' ∧ Went A v v' W W' := by
  have hR := hC A base v a log W h ha hl
  clear hC h ha hl
  go_enter Try.func38, Try.ntmps38
  go_wp2_with fail
  refine hR.mono ?_
  rintro e w' ⟨he, hP⟩
  have HP := Lib.hid hP
  clear hR hP
  have HE := Lib.hid he
  cases ho : outOf (s a log).2.2 with
  | ok =>
    rw [ho] at he
    obtain ⟨v1, rfl⟩ := he
    have HO := Lib.hid ho
    clear ho
    go_wp2
    go_end0
    exact ⟨by rw [HO.out]; exact ⟨_, rfl⟩, HP.out⟩
  | err n =>
    rw [ho] at he
    obtain ⟨c, rfl, hc⟩ := he
    exact ⟨rfl, HE.out, HP.out⟩
  | other u x =>
    rw [ho] at he
    obtain ⟨hu, c, rfl, hc⟩ := he
    exact ⟨rfl, HE.out, HP.out⟩

theorem f39 (g : Arg) (s : Nat → List Int → Res) (deep : Int) (hC : RunC g s (deep + 1)) (A base b2 b3 : Nat) (v : Value) (a : Nat) (log : List Int) (W : World) (h : PL g A base v a log W) (ha : a ≤ min g.len 50) (hl : log.length ≤ a)
    (h2 : W.cell? ⟨b2, 0, none⟩ = some (.pointer (some ⟨A, 0, none⟩))) (h3 : W.cell? ⟨b3, 0, none⟩ = some (.int .i64 deep)) (d0 : 0 ≤ deep) (d5 : deep < 5) :
    Calls Try.prog 39 #[.pointer (some ⟨b2, 0, none⟩), .pointer (some ⟨b3, 0, none⟩)] W fun e W' => Ends (outOf (s a log).2.2) e ∧ ∃ v', PL g A base v' (s a log).1 (s a log).2.1 W' ∧ Went A v v' W W' := by
  have hR := hC A base v a log W h ha hl
  clear hC h ha hl
  go_enter Try.func39, Try.ntmps39
  go_wp2_with fail
  refine hR.mono ?_
  rintro e w' ⟨he, hP⟩
  have HP := Lib.hid hP
  clear hR hP
  have HE := Lib.hid he
  cases ho : outOf (s a log).2.2 with
  | ok =>
    rw [ho] at he
    obtain ⟨v1, rfl⟩ := he
    have HO := Lib.hid ho
    clear ho
    go_wp2
    go_end0
    exact ⟨by rw [HO.out]; exact ⟨_, rfl⟩, HP.out⟩
  | err n =>
    rw [ho] at he
    obtain ⟨c, rfl, hc⟩ := he
    exact ⟨rfl, HE.out, HP.out⟩
  | other u x =>
    rw [ho] at he
    obtain ⟨hu, c, rfl, hc⟩ := he
    exact ⟨rfl, HE.out, HP.out⟩


/-- A player stands through the writing of a block that is none of its own. -/
theorem PL.apart {g : Arg} {A base : Nat} {v : Value} {a : Nat} {log : List Int} {W W' : World} {k : Nat} (h : PL g A base v a log W) (hk : Kept (· = k) W W') (hA : k ≠ A) (hv : v.ownBlock ≠ some k) (hb : k ≠ g.b) : PL g A base v a log W' := by
  have hAl : A < W.heap.size := World.block_lt_of_cell? W _ h.ix
  have e : W'.heap[A]? = W.heap[A]? := hk.block A hAl (fun e => hA e.symm)
  refine ⟨(World.cell?_of_block (a := ⟨A, 0, none⟩) e).trans h.l, (World.cell?_of_block (a := ⟨A, 1, none⟩) e).trans h.ix, (World.cell?_of_block (a := ⟨A, 2, none⟩) e).trans h.lg, h.own.kept (grownBy_of_kept hk) (.inr hv),
    fun i => (World.frozen?_of_block (a := ⟨A, i, none⟩) e).trans (h.fz i), h.nA, h.bA, h.bB, Nat.le_trans h.baseW hk.size, h.lies, ?_⟩
  intro i hi
  obtain ⟨p, q⟩ := h.arg i hi
  exact ⟨(hk.cell (p := ⟨g.b, g.off + i * 2, none⟩) (World.block_lt_of_cell? W _ p) (fun e => hb e.symm)).trans p, (hk.cell (p := ⟨g.b, g.off + i * 2 + 1, none⟩) (World.block_lt_of_cell? W _ q) (fun e => hb e.symm)).trans q⟩

/-- Run of a function that plays on. -/
theorem run_sub (g : Arg) (s : Nat → List Int → Res) (deep : Int) (F : FuncId) (hF : F = 37 ∨ F = 38 ∨ F = 39) (hC : RunC g s (deep + 1)) (A base b2 b3 : Nat) (v : Value) (a : Nat) (log : List Int) (w : World) (h : PL g A base v a log w) (ha : a ≤ min g.len 50) (hl : log.length ≤ a)
    (h2 : w.cell? ⟨b2, 0, none⟩ = some (.pointer (some ⟨A, 0, none⟩))) (h3 : w.cell? ⟨b3, 0, none⟩ = some (.int .i64 deep)) (d0 : 0 ≤ deep) (d5 : deep < 5) :
    Calls Try.prog 7 #[.func (.func F) #[] #[.pointer (some ⟨b2, 0, none⟩), .pointer (some ⟨b3, 0, none⟩)]] w fun e w' => RunEnds (outOf (s a log).2.2) e ∧ ∃ v', PL g A base v' (s a log).1 (s a log).2.1 w' ∧ Went A v v' w w' := by
  have hA : A < w.heap.size := World.block_lt_of_cell? w _ h.ix
  have hvb : ∀ k, v.ownBlock = some k → k < w.heap.size := fun k e => (h.own.lt k e).2
  have hgb : g.b < w.heap.size := Nat.lt_of_lt_of_le h.bB h.baseW
  have hs : (runWorld w).heap.size = w.heap.size + 1 := by simp [runWorld]
  have h2' : (runWorld w).cell? ⟨b2, 0, none⟩ = some (.pointer (some ⟨A, 0, none⟩)) := (World.cell?_alloc_lt w _ ⟨b2, 0, none⟩ (World.block_lt_of_cell? w _ h2)).trans h2
  have h3' : (runWorld w).cell? ⟨b3, 0, none⟩ = some (.int .i64 deep) := (World.cell?_alloc_lt w _ ⟨b3, 0, none⟩ (World.block_lt_of_cell? w _ h3)).trans h3
  have hP : PL g A base v a log (runWorld w) := h.alloc _
  have C : Calls Try.prog F #[.pointer (some ⟨b2, 0, none⟩), .pointer (some ⟨b3, 0, none⟩)] (runWorld w) fun e W' => Ends (outOf (s a log).2.2) e ∧ ∃ v', PL g A base v' (s a log).1 (s a log).2.1 W' ∧ Went A v v' (runWorld w) W' := by
    rcases hF with rfl | rfl | rfl
    · exact f37 g s deep hC A base b2 b3 v a log _ hP ha hl h2' h3' d0 d5
    · exact f38 g s deep hC A base b2 b3 v a log _ hP ha hl h2' h3' d0 d5
    · exact f39 g s deep hC A base b2 b3 v a log _ hP ha hl h2' h3' d0 d5
  have hent : ∀ w, (callFunc F #[.pointer (some ⟨b2, 0, none⟩), .pointer (some ⟨b3, 0, none⟩)]).run Try.prog w = .ok (.enter F #[.pointer (some ⟨b2, 0, none⟩), .pointer (some ⟨b3, 0, none⟩)]) w := by
    rcases hF with rfl | rfl | rfl <;> exact fun _ => by kernel_rfl
  refine (run_of F _ w (outOf (s a log).2.2) (fun w1 => ∃ v', PL g A base v' (s a log).1 (s a log).2.1 w1 ∧ Went A v v' (runWorld w) w1) hent ?_).mono ?_
  · refine C.mono ?_
    rintro e w1 ⟨he, v', hP1, hW1⟩
    refine ⟨he, ⟨v', hP1, hW1⟩, hW1.kept.block _ (by omega) ?_⟩
    rintro (e | e)
    · omega
    · have := hvb _ e; omega
  · rintro e w' ⟨he, w1, ⟨v', hP1, hW1⟩, hk⟩
    have hv' : v'.ownBlock ≠ some w.heap.size := by
      intro e
      rcases hW1.own with o | ⟨k, o, ok⟩
      · rw [o] at e; have := hvb _ e; omega
      · rw [o] at e; cases e; omega
    refine ⟨he, v', hP1.apart hk (by omega) hv' (by omega), ?_⟩
    have k0 : Went A v v w (runWorld w) := Went.of_kept (Kept.alloc _ w _)
    have k1 := k0.trans hW1
    refine ⟨k1.kept.trans hk (fun i hi e => by omega), k1.own⟩

theorem runEnds_out {o : Int} {e : Ending} (h : RunEnds (outOf o) e) : (o < 50 ∧ e = .returned (.int .i64 o)) ∨ (50 ≤ o ∧ ∃ c, e = .panicked c ∧ Chain (.iface 3 (.int .i64 (o - 50))) c) := by
  unfold outOf at h
  split at h
  · rename_i h0
    subst h0
    exact .inl ⟨by omega, h⟩
  · split at h
    · exact .inl ⟨by assumption, h⟩
    · obtain ⟨_, c, he, hc⟩ := h
      exact .inr ⟨by omega, c, he, hc⟩

/-- What Each of two functions that play on comes to. -/
def eachRes (s : Nat → List Int → Res) (a : Nat) (log : List Int) : Nat × Res :=
  if (s a log).2.2 = 0 then (if (s (s a log).1 (s a log).2.1).2.2 = 0 then (2, s (s a log).1 (s a log).2.1) else (1, s (s a log).1 (s a log).2.1)) else (0, s a log)

def EachEnds (cnt : Nat) (o : Int) (e : Ending) : Prop :=
  (o < 50 ∧ e = .returned (.tuple #[.int .i64 cnt, .int .i64 o])) ∨ (50 ≤ o ∧ ∃ c, e = .panicked c ∧ Chain (.iface 3 (.int .i64 (o - 50))) c)

theorem each_sub (g : Arg) (s : Nat → List Int → Res) (deep : Int) (hs : GoodSub (min g.len 50) s) (hC : RunC g s (deep + 1)) (A base b2 b3 bs : Nat) (v : Value) (a : Nat) (log : List Int) (w : World) (h : PL g A base v a log w) (ha : a ≤ min g.len 50) (hl : log.length ≤ a)
    (h2 : w.cell? ⟨b2, 0, none⟩ = some (.pointer (some ⟨A, 0, none⟩))) (h3 : w.cell? ⟨b3, 0, none⟩ = some (.int .i64 deep)) (d0 : 0 ≤ deep) (d5 : deep < 5)
    (n2 : b2 ≠ A ∧ v.ownBlock ≠ some b2) (n3 : b3 ≠ A ∧ v.ownBlock ≠ some b3) (ns : bs ≠ A ∧ v.ownBlock ≠ some bs)
    (s0 : w.cell? ⟨bs, 0, none⟩ = some (.func (.func 38) #[] #[.pointer (some ⟨b2, 0, none⟩), .pointer (some ⟨b3, 0, none⟩)])) (s1 : w.cell? ⟨bs, 1, none⟩ = some (.func (.func 39) #[] #[.pointer (some ⟨b2, 0, none⟩), .pointer (some ⟨b3, 0, none⟩)])) :
    Calls Try.prog 10 #[.slice (some ⟨bs, 0, none⟩) 2 2] w fun e w' => EachEnds (eachRes s a log).1 (eachRes s a log).2.2.2 e ∧ ∃ v', PL g A base v' (eachRes s a log).2.1 (eachRes s a log).2.2.1 w' ∧ Went A v v' w w' := by
  obtain ⟨r, hr⟩ : ∃ r, s a log = r := ⟨_, rfl⟩
  obtain ⟨q, hq⟩ : ∃ q, s r.1 r.2.1 = q := ⟨_, rfl⟩
  have hE : eachRes s a log = if r.2.2 = 0 then (if q.2.2 = 0 then (2, q) else (1, q)) else (0, r) := by unfold eachRes; rw [hr, hq]
  have gr := hs a log ha
  rw [hr] at gr
  refine each_of bs 0 2 2 (fun i => match i with | 0 => .func (.func 38) #[] #[.pointer (some ⟨b2, 0, none⟩), .pointer (some ⟨b3, 0, none⟩)] | _ => .func (.func 39) #[] #[.pointer (some ⟨b2, 0, none⟩), .pointer (some ⟨b3, 0, none⟩)])
    (fun i w' => match i with
      | 0 => ∃ v', PL g A base v' a log w' ∧ Went A v v' w w'
      | 1 => r.2.2 = 0 ∧ ∃ v', PL g A base v' r.1 r.2.1 w' ∧ Went A v v' w w'
      | _ => r.2.2 = 0 ∧ q.2.2 = 0 ∧ ∃ v', PL g A base v' q.1 q.2.1 w' ∧ Went A v v' w w') _ (by omega) ?_ ?_ ?_ w ⟨v, h, Went.refl _ _ _⟩
  · intro i w' hi hI
    match i, hi, hI with
    | 0, _, ⟨v', _, hW⟩ => exact hW.cell s0 ns.1 ns.2
    | 1, _, ⟨_, v', _, hW⟩ => exact hW.cell s1 ns.1 ns.2
  · intro i w' hi hI
    match i, hi, hI with
    | 0, _, ⟨v', hP, hW⟩ =>
      refine (run_sub g s deep 38 (.inr (.inl rfl)) hC A base b2 b3 v' a log w' hP ha hl (hW.cell h2 n2.1 n2.2) (hW.cell h3 n3.1 n3.2) d0 d5).mono ?_
      rintro e w2 ⟨he, v2, hP2, hW2⟩
      rw [hr] at he hP2
      have hWW := hW.trans hW2
      rcases runEnds_out he with ⟨ho, rfl⟩ | ⟨ho, c, rfl, hc⟩
      · by_cases h0 : r.2.2 = 0
        · exact .inl ⟨by rw [h0], h0, v2, hP2, hWW⟩
        · refine .inr (.inl ⟨r.2.2, by simp; exact h0, rfl, ?_⟩)
          rw [hE, if_neg h0]
          exact ⟨.inl ⟨ho, rfl⟩, v2, hP2, hWW⟩
      · refine .inr (.inr ⟨c, rfl, ?_⟩)
        rw [hE, if_neg (by omega)]
        exact ⟨.inr ⟨ho, c, rfl, hc⟩, v2, hP2, hWW⟩
    | 1, _, ⟨h0, v', hP, hW⟩ =>
      refine (run_sub g s deep 39 (.inr (.inr rfl)) hC A base b2 b3 v' r.1 r.2.1 w' hP gr.le (by have := gr.len; omega) (hW.cell h2 n2.1 n2.2) (hW.cell h3 n3.1 n3.2) d0 d5).mono ?_
      rintro e w2 ⟨he, v2, hP2, hW2⟩
      rw [hq] at he hP2
      have hWW := hW.trans hW2
      rcases runEnds_out he with ⟨ho, rfl⟩ | ⟨ho, c, rfl, hc⟩
      · by_cases q0 : q.2.2 = 0
        · exact .inl ⟨by rw [q0], h0, q0, v2, hP2, hWW⟩
        · refine .inr (.inl ⟨q.2.2, by simp; exact q0, rfl, ?_⟩)
          rw [hE, if_pos h0, if_neg q0]
          exact ⟨.inl ⟨ho, rfl⟩, v2, hP2, hWW⟩
      · refine .inr (.inr ⟨c, rfl, ?_⟩)
        rw [hE, if_pos h0, if_neg (by omega)]
        exact ⟨.inr ⟨ho, c, rfl, hc⟩, v2, hP2, hWW⟩
  · rintro w' ⟨h0, q0, v', hP, hW⟩
    rw [hE, if_pos h0, if_pos q0]
    exact ⟨.inl ⟨by rw [q0]; omega, by rw [q0]⟩, v', hP, hW⟩

end Go.Proofs.Ytbfgpbjckkhljaa
