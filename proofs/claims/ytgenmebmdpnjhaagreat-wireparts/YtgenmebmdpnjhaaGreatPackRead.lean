
/- The landed pack's Read: the rule. -/
import Derived.Test.YtgenmebmdpnjhaaGreatPackReader
import Derived.Test.YtgenmebmdpnjhaaGreatG9
import Derived.Laws.EntriesVeiled
namespace Go.Proofs.YtgenmebmdpnjhaaGreat
open Go.RowKit

/-- What Read answers: f Stopped with err, or there was left r. -/
def readAns (err : Int) (r : List Nat) : Int := if err = 0 then (if r = [] then 0 else 3) else err

/-- The world in which Read runs its function: its box, the Reader in block size + 1, its box. -/
def readWorld (w : World) (f : Value) (A : Option Addr) (n c : Nat) : World :=
  ((w.alloc (.cells #[f] 88)).alloc (.cells #[.slice A n c] 118)).alloc (.cells #[.pointer (some ⟨w.heap.size + 1, 0, none⟩)] 86)

theorem readWorld_below (w : World) (f : Value) (A : Option Addr) (n c : Nat) : Below w.heap.size w (readWorld w f A n c) :=
  (((Below.refl _ _).alloc (Nat.le_refl _) _).alloc (by simp) _).alloc (by simp; omega) _
theorem readWorld_size (w : World) (f : Value) (A : Option Addr) (n c : Nat) : (readWorld w f A n c).heap.size = w.heap.size + 3 := by simp [readWorld]
theorem readWorld_f (w : World) (f : Value) (A : Option Addr) (n c : Nat) : (readWorld w f A n c).cell? ⟨w.heap.size, 0, none⟩ = some f := by simp [readWorld, go_sem]
theorem readWorld_p (w : World) (f : Value) (A : Option Addr) (n c : Nat) : (readWorld w f A n c).cell? ⟨w.heap.size + 1 + 1, 0, none⟩ = some (.pointer (some ⟨w.heap.size + 1, 0, none⟩)) := by simp [readWorld, go_sem]
theorem readWorld_r (w : World) (f : Value) (A : Option Addr) (n c : Nat) : (readWorld w f A n c).cell? ⟨w.heap.size + 1, 0, none⟩ = some (.slice A n c) ∧ (readWorld w f A n c).frozen? ⟨w.heap.size + 1, 0, none⟩ = false := by simp [readWorld, go_sem]
theorem Rd.block_lt {w : World} {A : Option Addr} {n c : Nat} {l : List Nat} (h : Rd w A n c l) (hn : 0 < n) {ad : Addr} (e : A = some ad) : ad.block < w.heap.size := by
  obtain ⟨rb, ro, e', hc⟩ := h.at_ (j := 0) hn
  rw [e] at e'
  cases e'
  exact cell_lt hc

theorem pleft_cell {w : World} {g : Nat} {A : Option Addr} {n c : Nat} (c0 : w.cell? ⟨g, 0, none⟩ = some (.slice A n c)) :
    Calls Tryz.prog 88 #[.pointer (some ⟨g, 0, none⟩)] w fun e w' => e = .returned (.int .i64 (n : Int)) ∧ w = w' := by
  go_enter Tryz.func88, Tryz.ntmps88
  go_wp2_with fail
  go_ret
  exact ⟨rfl, rfl⟩

theorem readAns_left {l : List Nat} {n : Nat} (h : l.length = n) : readAns 0 l = if n = 0 then 0 else 3 := by
  unfold readAns
  rw [if_pos rfl]
  cases l with
  | nil => subst h; rfl
  | cons a l => subst h; simp

theorem read_nil {w : World} {A : Option Addr} {n c : Nat} {l : List Nat} (hr : Rd w A n c l) :
    Calls Tryz.prog 50 #[.slice A n c, .nilFunc] w fun e w' => e = .returned (.int .i64 (readAns 0 l)) ∧ Below w.heap.size w w' := by
  have hnil : ∀ w : World, (binOp BinOp.neq 88 .nilFunc .nilFunc).run Tryz.prog w = .ok (.bool false) w := fun _ => by kernel_rfl
  rw [readAns_left hr.1]
  clear hr
  by_cases h0 : n = 0
  · subst h0
    go_enter Tryz.func50, Tryz.ntmps50
    go_wp2_with fail
    refine (pleft_cell (readWorld_r w .nilFunc A 0 c).1).mono ?_
    rintro e w1 ⟨rfl, rfl⟩
    go_wp2_with fail
    go_ret
    exact ⟨rfl, readWorld_below w _ _ _ _⟩
  · rw [if_neg h0]
    go_enter Tryz.func50, Tryz.ntmps50
    go_wp2_with fail
    refine (pleft_cell (readWorld_r w .nilFunc A n c).1).mono ?_
    rintro e w1 ⟨rfl, rfl⟩
    go_wp2_with fail
    go_ret
    exact ⟨rfl, readWorld_below w _ _ _ _⟩

/-- What a Reader in block g has left, so many bytes. -/
def LeftIs (w : World) (g : Nat) (r : List Nat) : Prop := ∃ A n c, w.cell? ⟨g, 0, none⟩ = some (.slice A n c) ∧ r.length = n
theorem PR.left {w : World} {g : Nat} {A : Option Addr} {n c : Nat} {r : List Nat} (h : PR w g A n c r) : LeftIs w g r := ⟨A, n, c, h.c0, h.rd.1⟩
theorem LeftIs.kept {S : Nat → Prop} {w w' : World} {g : Nat} {r : List Nat} (h : LeftIs w g r) (k : Kept S w w') (hg : ¬ S g) : LeftIs w' g r := by
  obtain ⟨A, n, c, hc, hl⟩ := h
  exact ⟨A, n, c, by rw [k.cell (p := ⟨g, 0, none⟩) (cell_lt hc) hg]; exact hc, hl⟩

/-- THE RULE OF Read: a function that Stops with err, or (err = 0) leaves r'. -/
theorem read_of (F : FuncId) (cap : Array Value) {w : World} {A : Option Addr} {n c : Nat} {l : List Nat} (hr : Rd w A n c l) (hc : n ≤ c) (hn : n ≤ 4611686018427387904) (h0 : ∀ ad, A = some ad → ad.block < w.heap.size) (err : Int) (r' : List Nat) (S : Nat → Prop) (Q : World → Prop)
    (hent : ∀ w', (callFunc F (#[.pointer (some ⟨w.heap.size + 1, 0, none⟩)] ++ cap)).run Tryz.prog w' = .ok (.enter F (#[.pointer (some ⟨w.heap.size + 1, 0, none⟩)] ++ cap)) w')
    (hS : ∀ k, w.heap.size ≤ k → S k → k = w.heap.size + 1)
    (h : ∀ w4, Below w.heap.size w w4 → w4.heap.size = w.heap.size + 4 → PR w4 (w.heap.size + 1) A n c l → Calls Tryz.prog F (#[.pointer (some ⟨w.heap.size + 1, 0, none⟩)] ++ cap) w4 fun e w5 =>
      ((err = 0 ∧ (∃ v, e = .returned v) ∧ LeftIs w5 (w.heap.size + 1) r') ∨ (¬ err = 0 ∧ e = stopped err)) ∧ Kept S w4 w5 ∧ Q w5) :
    Calls Tryz.prog 50 #[.slice A n c, .func (.func F) #[] cap] w fun e w' => e = .returned (.int .i64 (readAns err r')) ∧ ∃ w5, Q w5 ∧ Kept (· = w.heap.size + 3) w5 w' ∧ Kept S w w' := by
  have hnil : ∀ w : World, (binOp BinOp.neq 88 (.func (.func F) #[] cap) .nilFunc).run Tryz.prog w = .ok (.bool true) w := fun _ => by kernel_rfl
  have hmf : ∀ (fn : Fn) (first cap : Array Value) (w : World), (Instr.makeFunc fn first cap).run Tryz.prog w = .ok (.func fn first cap) w := fun _ _ _ _ => rfl
  have hb := readWorld_below w (.func (.func F) #[] cap) A n c
  have hsz := readWorld_size w (.func (.func F) #[] cap) A n c
  have hcf := readWorld_f w (.func (.func F) #[] cap) A n c
  have hcp := readWorld_p w (.func (.func F) #[] cap) A n c
  have hcr := readWorld_r w (.func (.func F) #[] cap) A n c
  -- the function inside Run
  have hrun : Calls Tryz.prog 86 #[.func (.func 87) #[] #[.pointer (some ⟨w.heap.size, 0, none⟩), .pointer (some ⟨w.heap.size + 1 + 1, 0, none⟩)]] (readWorld w (.func (.func F) #[] cap) A n c) fun e w' =>
      RunEnds (if err = 0 then .ok else .err err) e ∧ ∃ w1, (Q w1 ∧ Kept S (runWorld (readWorld w (.func (.func F) #[] cap) A n c)) w1 ∧ (err = 0 → LeftIs w1 (w.heap.size + 1) r')) ∧ Kept (· = (readWorld w (.func (.func F) #[] cap) A n c).heap.size) w1 w' := by
    generalize readWorld w (.func (.func F) #[] cap) A n c = w3 at hb hsz hcf hcp hcr ⊢
    refine run_of 87 _ w3 _ _ (fun w => by kernel_rfl) ?_
    have hb4 : Below w3.heap.size w3 (runWorld w3) := one_more w3 _
    have e1 : (runWorld w3).cell? ⟨w.heap.size, 0, none⟩ = some (.func (.func F) #[] cap) := by rw [hb4.cell (by show w.heap.size < _; omega)]; exact hcf
    have e2 : (runWorld w3).cell? ⟨w.heap.size + 1 + 1, 0, none⟩ = some (.pointer (some ⟨w.heap.size + 1, 0, none⟩)) := by rw [hb4.cell (by show w.heap.size + 1 + 1 < _; omega)]; exact hcp
    have hbb : Below w.heap.size w (runWorld w3) := hb.trans (hb4.mono (by omega))
    have hs4 : (runWorld w3).heap.size = w.heap.size + 4 := by simp [runWorld, hsz]
    have hpr : PR (runWorld w3) (w.heap.size + 1) A n c l := by
      refine ⟨?_, ?_, hr.later ?_, hc, fun ad e => by have := h0 ad e; omega, hn⟩
      · rw [hb4.cell (by show w.heap.size + 1 < _; omega)]; exact hcr.1
      · rw [hb4.frozen (by show w.heap.size + 1 < _; omega)]; exact hcr.2
      · exact hbb
    have hF := h (runWorld w3) hbb hs4 hpr
    have hS3 : ¬ S w3.heap.size := fun e => by have := hS _ (by omega) e; omega
    have hlt : w3.heap.size < (runWorld w3).heap.size := by rw [hs4, hsz]; omega
    clear h hr hpr hbb hb4 hcf hcp hcr hb
    generalize runWorld w3 = w4 at e1 e2 hs4 hF hlt ⊢
    generalize ho : (if err = 0 then Out.ok else Out.err err) = o
    have HO := Lib.hid ho
    clear ho
    go_enter Tryz.func87, Tryz.ntmps87
    go_wp2_with fail
    refine Calls.mono hF ?_
    rintro e w5 ⟨he, hk, hq⟩
    have hcell : w5.heap[w3.heap.size]? = w4.heap[w3.heap.size]? := hk.block _ hlt hS3
    rcases he with ⟨he, ⟨v, rfl⟩, hp⟩ | ⟨he, rfl⟩
    · have H := Lib.hid (And.intro he (And.intro hp (And.intro hk (And.intro hq hcell))))
      clear he hp hk hq hcell hF
      go_wp2_with fail
      go_end0
      refine ⟨?_, ⟨H.out.2.2.2.1, H.out.2.2.1, ?_⟩, H.out.2.2.2.2⟩
      · first | exact ⟨_, rfl⟩ | (rw [← HO.out, if_pos H.out.1]; exact ⟨_, rfl⟩)
      · first | exact H.out.2.1 | exact fun _ => H.out.2.1
    · refine ⟨rfl, ?_, ⟨hq, hk, fun e => absurd e he⟩, hcell⟩
      rw [← HO.out, if_neg he]
      exact ⟨_, rfl, Chain.one _⟩
  have HRun := Lib.hid hrun
  clear hrun h hr hcf hcp hcr hent
  go_enter Tryz.func50, Tryz.ntmps50
  go_wp2_with fail
  refine Calls.mono HRun.out ?_
  rintro e w6 ⟨he, w1, ⟨hq, hk, hp⟩, hk6⟩
  have hrs : (runWorld (readWorld w (.func (.func F) #[] cap) A n c)).heap.size = w.heap.size + 4 := by simp [runWorld, hsz]
  have hr2 : (runWorld (readWorld w (.func (.func F) #[] cap) A n c)).cell? ⟨w.heap.size + 1 + 1, 0, none⟩ = some (.pointer (some ⟨w.heap.size + 1, 0, none⟩)) := by
    have hb1 : Below (readWorld w (.func (.func F) #[] cap) A n c).heap.size (readWorld w (.func (.func F) #[] cap) A n c) (runWorld (readWorld w (.func (.func F) #[] cap) A n c)) := one_more _ _
    rw [hb1.cell (by show w.heap.size + 1 + 1 < _; omega)]
    exact readWorld_p w _ A n c
  have hb4 : Below w.heap.size w (runWorld (readWorld w (.func (.func F) #[] cap) A n c)) := hb.trans ((one_more _ _).mono (by omega))
  rw [hsz] at hk6
  have hp6 : w6.cell? ⟨w.heap.size + 1 + 1, 0, none⟩ = some (.pointer (some ⟨w.heap.size + 1, 0, none⟩)) := by
    rw [hk6.cell (p := ⟨w.heap.size + 1 + 1, 0, none⟩) (by have := hk.size; show w.heap.size + 1 + 1 < _; omega) (by show ¬ w.heap.size + 1 + 1 = _; omega)]
    rw [hk.cell (p := ⟨w.heap.size + 1 + 1, 0, none⟩) (by show w.heap.size + 1 + 1 < _; omega) (fun e => by have := hS _ (by show _ ≤ w.heap.size + 1 + 1; omega) e; have e2 : w.heap.size + 1 + 1 = w.heap.size + 1 := this; omega)]
    exact hr2
  have HK : Hid (∃ w5, Q w5 ∧ Kept (· = w.heap.size + 3) w5 w6 ∧ Kept S w w6) := by
    refine ⟨w1, hq, hk6, ?_⟩
    have k4 : Kept S w (runWorld (readWorld w (.func (.func F) #[] cap) A n c)) := Kept.ofBelow hb4
    exact (k4.then hk).trans hk6 (fun i hi e => by omega)
  have HP : Hid (err = 0 → ∃ A' n' c', w6.cell? ⟨w.heap.size + 1, 0, none⟩ = some (.slice A' n' c') ∧ r'.length = n') := fun e => by
    obtain ⟨A', n', c', hp⟩ := hp e
    refine ⟨A', n', c', ?_, hp.2⟩
    rw [hk6.cell (p := ⟨w.heap.size + 1, 0, none⟩) (by have := hk.size; show w.heap.size + 1 < _; omega) (by show ¬ w.heap.size + 1 = _; omega)]
    exact hp.1
  clear hq hk hp hk6 hrs hr2 hb4 HRun hb hsz
  by_cases he0 : err = 0
  · rw [if_pos he0] at he
    have he' : e = .returned (.int .i64 0) := he
    obtain ⟨A', n', c', hc6, hl6⟩ := HP.out he0
    have HA : Hid (readAns err r' = if n' = 0 then 0 else 3) := by rw [he0]; exact readAns_left hl6
    clear he he0 HP
    subst he'
    by_cases hn0 : n' = 0
    · subst hn0
      go_wp2_with fail
      refine (pleft_cell hc6).mono ?_
      rintro e w7 ⟨rfl, rfl⟩
      go_wp2_with fail
      go_ret
      exact ⟨by rw [HA.out]; rfl, HK.out⟩
    · go_wp2_with fail
      refine (pleft_cell hc6).mono ?_
      rintro e w7 ⟨rfl, rfl⟩
      go_wp2_with fail
      go_ret
      exact ⟨by rw [HA.out, if_neg hn0]; rfl, HK.out⟩
  · rw [if_neg he0] at he
    have he' : e = .returned (.int .i64 err) := he
    have HA : Hid (readAns err r' = err) := by unfold readAns; rw [if_neg he0]; exact rfl
    clear he HP
    subst he'
    go_wp2_with fail
    go_ret
    exact ⟨by rw [HA.out]; rfl, HK.out⟩
end Go.Proofs.YtgenmebmdpnjhaaGreat
