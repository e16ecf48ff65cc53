
/- Tests: ends, and what implies what: the contracts of package pred's lower, upper, hasEnds, within, takesEach, prefixImplies. -/
import Derived.Test.YtfbfbajccphkoaaGreatPrd3
namespace Go.Proofs.YtfbfbajccphkoaaGreat
open Go.RowKit
set_option linter.unusedVariables false

/-- An end: is it there, is it open, where. -/
structure En where
  th : Bool
  op : Bool
  at_ : Val
abbrev ev (e : En) : Value := .agg #[.bool e.th, .bool e.op, .int .i64 e.at_.k, .int .i64 e.at_.n, .float .f64 e.at_.x, .string e.at_.s, .bool e.at_.b]
abbrev ebox (e : En) : Obj := .cells #[.bool e.th, .bool e.op, .int .i64 e.at_.k, .int .i64 e.at_.n, .float .f64 e.at_.x, .string e.at_.s, .bool e.at_.b] 101
structure EBox (W : World) (g : Nat) (e : En) : Prop where
  h0 : ∀ x : Later W, x.at_.cell? ⟨g, 0, none⟩ = some (.bool e.th)
  h1 : ∀ x : Later W, x.at_.cell? ⟨g, 1, none⟩ = some (.bool e.op)
  h2 : ∀ x : Later W, x.at_.cell? ⟨g, 2, none⟩ = some (.int .i64 e.at_.k)
  h3 : ∀ x : Later W, x.at_.cell? ⟨g, 3, none⟩ = some (.int .i64 e.at_.n)
  h4 : ∀ x : Later W, x.at_.cell? ⟨g, 4, none⟩ = some (.float .f64 e.at_.x)
  h5 : ∀ x : Later W, x.at_.cell? ⟨g, 5, none⟩ = some (.string e.at_.s)
  h6 : ∀ x : Later W, x.at_.cell? ⟨g, 6, none⟩ = some (.bool e.at_.b)
theorem ebox_new (w : World) (e : En) : EBox (w.alloc (ebox e)) w.heap.size e := by
  constructor <;> (intro x; exact later_cell (by rw [World.cell?_alloc_new]; rfl) x)
theorem EBox.next {W : World} {g : Nat} {e : En} (h : EBox W g e) (W' : World) (k : Below W.heap.size W W') : EBox W' g e :=
  ⟨fun x => h.h0 ⟨x.at_, below_then k x.below⟩, fun x => h.h1 ⟨x.at_, below_then k x.below⟩, fun x => h.h2 ⟨x.at_, below_then k x.below⟩, fun x => h.h3 ⟨x.at_, below_then k x.below⟩, fun x => h.h4 ⟨x.at_, below_then k x.below⟩, fun x => h.h5 ⟨x.at_, below_then k x.below⟩, fun x => h.h6 ⟨x.at_, below_then k x.below⟩⟩
theorem world_ee (w : World) (d e : En) : ∃ W, Below W.heap.size W ((w.alloc (ebox d)).alloc (ebox e)) ∧ Below w.heap.size w W ∧ EBox W w.heap.size d ∧ EBox W (w.heap.size + 1) e :=
  ⟨_, Below.refl _ _, two_new _ _ _, (ebox_new _ _).next _ (one_new _ _), by have := ebox_new (w.alloc (ebox d)) e; rw [size_next] at this; exact this⟩
namespace Pd
def lower (p : Prd) : En := if p.t = 6 then ⟨true, true, p.v⟩ else if p.t = 7 ∨ p.t = 8 then ⟨true, false, p.v⟩ else ⟨false, false, z0⟩
def upper (p : Prd) : En := if p.t = 4 then ⟨true, true, p.v⟩ else if p.t = 5 then ⟨true, false, p.v⟩ else if p.t = 8 then ⟨true, false, p.w⟩ else ⟨false, false, z0⟩
def hasEnds (p : Prd) : Bool := (lower p).th || (upper p).th
def within (q p : En) (i : Int) : Bool := !p.th || (q.th && (Vl.ok q.at_ p.at_ && (decide (Vl.cmp q.at_ p.at_ = i) || decide (Vl.cmp q.at_ p.at_ = 0) && (q.op || !p.op))))
def each (p : Prd) (l : List Val) : Bool := l.all (fun v => nan v || takes p v)
def preI (v : Val) (p : Prd) : Bool := if p.t = 9 ∨ p.t = 7 ∨ p.t = 6 then takes p v else false
def implies (q p : Prd) : Bool :=
  if !(right q && right p) then false
  else if void q || decide (p.t = 1) then true
  else if sameT q p then true
  else if p.t = 3 then !takes q p.v
  else if q.t = 2 then takes p q.v
  else if q.t = 10 then each p q.set
  else if hasEnds q && hasEnds p then within (lower q) (lower p) 1 && within (upper q) (upper p) (-1)
  else if q.t = 9 then preI q.v p
  else false
theorem fit0 : Fit z0 := ⟨by decide, by decide, by decide⟩
theorem lower_fit {p : Prd} (h : Fit p.v) : Fit (lower p).at_ := by
  unfold lower; split
  · exact h
  · split
    · exact h
    · exact fit0
theorem upper_fit {p : Prd} (h : Fit p.v) (h' : Fit p.w) : Fit (upper p).at_ := by
  unfold upper; split
  · exact h
  · split
    · exact h
    · split
      · exact h'
      · exact fit0
end Pd

theorem alloc2_new (w : World) (o o' : Obj) : ((w.alloc o).alloc o').heap[w.heap.size + 1]? = some o' := by have := heap_alloc_new (w.alloc o) o'; rw [size_next] at this; exact this
set_option maxHeartbeats 8000000 in
theorem lower_any (p : Prd) (A : Option Addr) (n c : Nat) (w : World) : Calls Tryz.prog 92 #[pv p A n c] w fun e w' => e = .returned (ev (Pd.lower p)) ∧ Below w.heap.size w w' := by
  have hst := store_float
  obtain ⟨nm, t, a, u, l⟩ := p
  have ht : t = 6 ∨ t = 7 ∨ t = 8 ∨ (¬ t = 6 ∧ ¬ t = 7 ∧ ¬ t = 8) := by omega
  rcases ht with rfl | rfl | rfl | ⟨g1, g2, g3⟩
  all_goals
    go_enter Tryz.func92, Tryz.ntmps92
    go_wp2_with fail
    refine bodyPost_ret (results_cell_row rfl _ _ _ _ _ _ _ rfl (alloc2_new _ _ _) Tryz.underlying101 rfl (by kernel_rfl)) rfl ?_
    first | exact ⟨rfl, two_new _ _ _⟩ | exact ⟨by simp [Pd.lower, g1, g2, g3, Pd.z0], two_new _ _ _⟩
set_option maxHeartbeats 8000000 in
theorem upper_any (p : Prd) (A : Option Addr) (n c : Nat) (w : World) : Calls Tryz.prog 93 #[pv p A n c] w fun e w' => e = .returned (ev (Pd.upper p)) ∧ Below w.heap.size w w' := by
  have hst := store_float
  obtain ⟨nm, t, a, u, l⟩ := p
  have ht : t = 4 ∨ t = 5 ∨ t = 8 ∨ (¬ t = 4 ∧ ¬ t = 5 ∧ ¬ t = 8) := by omega
  rcases ht with rfl | rfl | rfl | ⟨g1, g2, g3⟩
  all_goals
    go_enter Tryz.func93, Tryz.ntmps93
    go_wp2_with fail
    refine bodyPost_ret (results_cell_row rfl _ _ _ _ _ _ _ rfl (alloc2_new _ _ _) Tryz.underlying101 rfl (by kernel_rfl)) rfl ?_
    first | exact ⟨rfl, two_new _ _ _⟩ | exact ⟨by simp [Pd.upper, g1, g2, g3, Pd.z0], two_new _ _ _⟩
set_option maxHeartbeats 8000000 in
theorem within_any {q p : En} (hq : Fit q.at_) (hp : Fit p.at_) (i : Int) (w : World) : Calls Tryz.prog 91 #[ev q, ev p, .int .i64 i] w fun e w' => e = .returned (.bool (Pd.within q p i)) ∧ Below w.heap.size w w' := by
  obtain ⟨W, hW1, hW, hB, hV⟩ := world_ee w q p
  have HW := Lib.hid hW
  have HW1 := Lib.hid hW1
  have HC := Lib.hid (fun w' => vcmp_v hq hp w')
  clear hW hW1 hq hp
  obtain ⟨c0, c1, c2, c3, c4, c5, c6⟩ := hB
  obtain ⟨d0, d1, d2, d3, d4, d5, d6⟩ := hV
  obtain ⟨qt, qo, qa⟩ := q
  obtain ⟨pt, po, pa⟩ := p
  unfold Pd.within
  dsimp only at c0 c1 c2 c3 c4 c5 c6 d0 d1 d2 d3 d4 d5 d6 HC ⊢
  generalize Vl.cmp qa pa = cc at HC ⊢
  generalize Vl.ok qa pa = kk at HC ⊢
  haveI := later_some W
  cases pt
  · go_enter Tryz.func91, Tryz.ntmps91
    go_wp2_with fail
    go_ret
    exact ⟨ret_bool (by simp), below_then HW.out HW1.out⟩
  cases qt
  · go_enter Tryz.func91, Tryz.ntmps91
    go_wp2_with fail
    go_ret
    exact ⟨ret_bool (by simp), below_then HW.out HW1.out⟩
  go_enter Tryz.func91, Tryz.ntmps91
  go_wp2_with fail
  refine (calls_later (x := ⟨_, HW1.out⟩) (HC.out _)).mono ?_
  rintro e _ ⟨rfl, y, rfl⟩
  clear HW1 HC
  cases kk
  · go_wp2_with fail
    go_ret
    exact ⟨ret_bool (by simp), below_then HW.out (Later.below _)⟩
  by_cases h1 : cc = i
  · subst h1
    go_wp2_with fail
    go_ret
    exact ⟨ret_bool (by simp), below_then HW.out (Later.below _)⟩
  by_cases h2 : cc = 0
  · subst h2
    cases qo
    all_goals
      go_wp2_with fail
      go_ret
      exact ⟨ret_bool (by simp [h1]), below_then HW.out (Later.below _)⟩
  · go_wp2_with fail
    go_ret
    exact ⟨ret_bool (by simp [h1, h2]), below_then HW.out (Later.below _)⟩

set_option maxHeartbeats 8000000 in
theorem each_any {p : Prd} {A B : Option Addr} {n c m d : Nat} {l : List Val} {w : World} (hp : IsPrd w p A n) (h : Vs w B m l) : Calls Tryz.prog 89 #[pv p A n c, .slice B m d] w fun e w' => e = .returned (.bool (Pd.each p l)) ∧ Below w.heap.size w w' := by
  obtain rfl := h.len.symm
  have hn := h.few
  have HA := Lib.hid h
  have HP := Lib.hid hp
  have hst := store_float
  have HX := Lib.hid (pbox_new w p A n c)
  unfold Pd.each
  clear h hp
  go_enter Tryz.func89, Tryz.ntmps89
  go_wp2_with fail
  go_loopw [9] (fun ii wr => ∃ k : Nat, k ≤ l.length ∧ ii = .int .i64 (k : Int) ∧ l.all (fun v => Pd.nan v || Pd.takes p v) = (l.drop k).all (fun v => Pd.nan v || Pd.takes p v) ∧ Below w.heap.size w wr ∧ PBox wr w.heap.size p A n c) (fun ii _ => l.length - (intOf ii).toNat)
  case atStart => exact ⟨0, by omega, rfl, rfl, one_new _ _, HX.out⟩
  case round =>
    obtain ⟨k, hk, rfl, hl, hB, hF⟩ := hrel
    have HL := Lib.hid hl
    have HB := Lib.hid hB
    have HF := Lib.hid hF
    have hlr : w.heap.size < wr.heap.size := cell_lt (hF.h0 ⟨wr, Below.refl _ _⟩)
    clear hl hB hF HX
    by_cases hlt : k < l.length
    · obtain ⟨g, o, rfl, hg⟩ := HA.out.at (by omega)
      obtain ⟨a, ha⟩ : ∃ a, l[k]? = some a := ⟨_, List.getElem?_eq_getElem hlt⟩
      have HG := Lib.hid ha
      have hs := (hg k a ha).later HB.out
      have hfa := HA.out.fit a (List.mem_of_getElem? ha)
      obtain ⟨c0, c1, c2, c3, c4⟩ := hs
      clear hg ha
      go_wp2_with fail
      refine (nanv_any a _).mono ?_
      rintro e w2 ⟨rfl, hb⟩
      have HB2 := Lib.hid (below_then (below_then HB.out (one_new _ _)) hb)
      have HF2 := Lib.hid ((HF.out.next _ (one_new _ _)).next _ hb)
      have hV2 := ((vbox_new wr a).next _ hb)
      have e0 := hV2.h0 ⟨w2, Below.refl _ _⟩
      have e1 := hV2.h1 ⟨w2, Below.refl _ _⟩
      have e2 := hV2.h2 ⟨w2, Below.refl _ _⟩
      have e3 := hV2.h3 ⟨w2, Below.refl _ _⟩
      have e4 := hV2.h4 ⟨w2, Below.refl _ _⟩
      have hw2 : wr.heap.size < w2.heap.size := cell_lt e0
      dsimp only at e0 e1 e2 e3 e4
      clear c0 c1 c2 c3 c4 hb hV2
      cases hr : Pd.nan a
      · have q0 := HF2.out.h0 ⟨w2, Below.refl _ _⟩
        have q1 := HF2.out.h1 ⟨w2, Below.refl _ _⟩
        have q2 := HF2.out.h2 ⟨w2, Below.refl _ _⟩
        have q3 := HF2.out.h3 ⟨w2, Below.refl _ _⟩
        have q4 := HF2.out.h4 ⟨w2, Below.refl _ _⟩
        have q5 := HF2.out.h5 ⟨w2, Below.refl _ _⟩
        have q6 := HF2.out.h6 ⟨w2, Below.refl _ _⟩
        have q7 := HF2.out.h7 ⟨w2, Below.refl _ _⟩
        have q8 := HF2.out.h8 ⟨w2, Below.refl _ _⟩
        have q9 := HF2.out.h9 ⟨w2, Below.refl _ _⟩
        have q10 := HF2.out.h10 ⟨w2, Below.refl _ _⟩
        have q11 := HF2.out.h11 ⟨w2, Below.refl _ _⟩
        have q12 := HF2.out.h12 ⟨w2, Below.refl _ _⟩
        dsimp only at q0 q1 q2 q3 q4 q5 q6 q7 q8 q9 q10 q11 q12
        go_wp2_with fail
        refine (takes_any (HP.out.later HB2.out) hfa).mono ?_
        rintro e w3 ⟨rfl, hb⟩
        have HB3 := Lib.hid (below_then HB2.out hb)
        have HF3 := Lib.hid (HF2.out.next _ hb)
        clear q0 q1 q2 q3 q4 q5 q6 q7 q8 q9 q10 q11 q12 e0 e1 e2 e3 e4 hb
        cases ht : Pd.takes p a
        · have HM := Lib.hid (Pd.all_bad (f := fun v => Pd.nan v || Pd.takes p v) HG.out (by simp [hr, ht]))
          go_wp2_with fail
          go_ret
          exact ⟨by rw [HM.out]; rfl, HB3.out⟩
        · have HM := Lib.hid (Pd.all_good HG.out HL.out (by simp [hr, ht]))
          go_wp2_with fail
          exact ⟨⟨k + 1, by omega, rfl, HM.out, HB3.out, HF3.out⟩, by simp [intOf]; omega⟩
      · have HM := Lib.hid (Pd.all_good HG.out HL.out (by simp [hr]))
        clear e0 e1 e2 e3 e4
        go_wp2_with fail
        exact ⟨⟨k + 1, by omega, rfl, HM.out, HB2.out, HF2.out⟩, by simp [intOf]; omega⟩
    · have HM := Lib.hid (Pd.all_end hlt HL.out)
      go_wp2_with fail
      go_ret
      exact ⟨by rw [HM.out]; rfl, HB.out⟩
set_option maxHeartbeats 8000000 in
theorem prei_any {p : Prd} {A : Option Addr} {n c : Nat} {v : Val} {w : World} (h : IsPrd w p A n) (hv : Fit v) : Calls Tryz.prog 94 #[vlv v, pv p A n c] w fun e w' => e = .returned (.bool (Pd.preI v p)) ∧ Below w.heap.size w w' := by
  obtain ⟨W, hW1, hW, hV, hB⟩ := world_vp w p A n c v
  have HP := Lib.hid (h.later hW)
  have HV := Lib.hid hv
  have HW := Lib.hid hW
  have HW1 := Lib.hid hW1
  clear h hv hW hW1 hB hV
  obtain ⟨nm, t, a, u, l⟩ := p
  unfold Pd.preI
  have ht : t = 9 ∨ t = 7 ∨ t = 6 ∨ (¬ t = 9 ∧ ¬ t = 7 ∧ ¬ t = 6) := by omega
  rcases ht with rfl | rfl | rfl | ⟨g1, g2, g3⟩
  case' inr.inr.inr =>
    go_enter Tryz.func94, Tryz.ntmps94
    go_wp2_with fail
    go_ret
    exact ⟨ret_bool (by simp), below_then HW.out HW1.out⟩
  all_goals
    go_enter Tryz.func94, Tryz.ntmps94
    go_wp2_with (first | (go_at_call 56; refine (takes_l (x := ⟨_, HW1.out⟩) HP.out HV.out).mono ?_; rintro e _ ⟨rfl, y, rfl⟩) | fail)
    go_ret
    exact ⟨ret_bool (by simp), below_then HW.out (Later.below _)⟩
end Go.Proofs.YtfbfbajccphkoaaGreat
