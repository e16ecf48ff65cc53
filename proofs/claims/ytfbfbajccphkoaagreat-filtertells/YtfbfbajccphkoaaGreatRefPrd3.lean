
/- The document's answers on tests: ends, Implies. -/
import Derived.Test.YtfbfbajccphkoaaGreatRefPrd2
import Derived.Test.YtfbfbajccphkoaaGreatPrd6
namespace Go.Proofs.YtfbfbajccphkoaaGreat
open Go.RowKit
set_option linter.unusedVariables false

abbrev rev (e : En) : Value := .agg #[.int .i64 e.at_.k, .int .i64 e.at_.n, .float .f64 e.at_.x, .string e.at_.s, .bool e.at_.b, .bool e.th, .bool e.op]
abbrev rebox (e : En) : Obj := .cells #[.int .i64 e.at_.k, .int .i64 e.at_.n, .float .f64 e.at_.x, .string e.at_.s, .bool e.at_.b, .bool e.th, .bool e.op] 82
structure REBox (W : World) (g : Nat) (e : En) : Prop where
  h0 : ∀ x : Later W, x.at_.cell? ⟨g, 0, none⟩ = some (.int .i64 e.at_.k)
  h1 : ∀ x : Later W, x.at_.cell? ⟨g, 1, none⟩ = some (.int .i64 e.at_.n)
  h2 : ∀ x : Later W, x.at_.cell? ⟨g, 2, none⟩ = some (.float .f64 e.at_.x)
  h3 : ∀ x : Later W, x.at_.cell? ⟨g, 3, none⟩ = some (.string e.at_.s)
  h4 : ∀ x : Later W, x.at_.cell? ⟨g, 4, none⟩ = some (.bool e.at_.b)
  h5 : ∀ x : Later W, x.at_.cell? ⟨g, 5, none⟩ = some (.bool e.th)
  h6 : ∀ x : Later W, x.at_.cell? ⟨g, 6, none⟩ = some (.bool e.op)
theorem rebox_new (w : World) (e : En) : REBox (w.alloc (rebox e)) w.heap.size e := by
  constructor <;> (intro x; exact later_cell (by rw [World.cell?_alloc_new]; rfl) x)
theorem REBox.next {W : World} {g : Nat} {e : En} (h : REBox W g e) (W' : World) (k : Below W.heap.size W W') : REBox W' g e :=
  ⟨fun x => h.h0 ⟨x.at_, below_then k x.below⟩, fun x => h.h1 ⟨x.at_, below_then k x.below⟩, fun x => h.h2 ⟨x.at_, below_then k x.below⟩, fun x => h.h3 ⟨x.at_, below_then k x.below⟩, fun x => h.h4 ⟨x.at_, below_then k x.below⟩, fun x => h.h5 ⟨x.at_, below_then k x.below⟩, fun x => h.h6 ⟨x.at_, below_then k x.below⟩⟩
theorem world_ree (w : World) (d e : En) : ∃ W, Below W.heap.size W ((w.alloc (rebox d)).alloc (rebox e)) ∧ Below w.heap.size w W ∧ REBox W w.heap.size d ∧ REBox W (w.heap.size + 1) e :=
  ⟨_, Below.refl _ _, two_new _ _ _, (rebox_new _ _).next _ (one_new _ _), by have := rebox_new (w.alloc (rebox d)) e; rw [size_next] at this; exact this⟩
namespace Pd
def rlower (p : Prd) : En := ⟨decide (p.t = 6 ∨ p.t = 7 ∨ p.t = 8), decide (p.t = 6), p.v⟩
def rupper (p : Prd) : En := if p.t = 8 then ⟨true, false, p.w⟩ else ⟨decide (p.t = 4 ∨ p.t = 5), decide (p.t = 4), p.v⟩
theorem within_of {q q' p p' : En} {i : Int} (h1 : q'.th = q.th) (h2 : p'.th = p.th) (h3 : q.th = true → q' = q) (h4 : p.th = true → p' = p) : within q' p' i = within q p i := by
  cases e : p.th
  · simp [within, h2, e]
  · rw [h4 e]
    cases e' : q.th
    · simp [within, h1, e, e']
    · rw [h3 e']
theorem rlower_of (p : Prd) : (rlower p).th = (lower p).th ∧ ((lower p).th = true → rlower p = lower p) := by
  unfold rlower lower
  by_cases h6 : p.t = 6
  · simp [h6]
  · by_cases h7 : p.t = 7 ∨ p.t = 8
    · simp [h6, h7]
    · simp [h6, h7]
theorem rupper_of (p : Prd) : (rupper p).th = (upper p).th ∧ ((upper p).th = true → rupper p = upper p) := by
  unfold rupper upper
  by_cases h4 : p.t = 4
  · simp [h4]
  · by_cases h5 : p.t = 5
    · simp [h5]
    · by_cases h8 : p.t = 8
      · simp [h8]
      · simp [h4, h5, h8]
theorem rwithin_lo (q p : Prd) : within (rlower q) (rlower p) 1 = within (lower q) (lower p) 1 := within_of (rlower_of q).1 (rlower_of p).1 (rlower_of q).2 (rlower_of p).2
theorem rwithin_up (q p : Prd) : within (rupper q) (rupper p) (-1) = within (upper q) (upper p) (-1) := within_of (rupper_of q).1 (rupper_of p).1 (rupper_of q).2 (rupper_of p).2
theorem ended_of (p : Prd) : (decide (4 ≤ p.t) && decide (p.t ≤ 8)) = hasEnds p := by
  unfold hasEnds lower upper
  by_cases h4 : p.t = 4
  · simp [h4]
  by_cases h5 : p.t = 5
  · simp [h5]
  by_cases h6 : p.t = 6
  · simp [h6]
  by_cases h7 : p.t = 7
  · simp [h7]
  by_cases h8 : p.t = 8
  · simp [h8]
  · simp [h4, h5, h6, h7, h8]; omega
theorem rlower_fit {p : Prd} (h : Fit p.v) : Fit (rlower p).at_ := h
theorem rupper_fit {p : Prd} (h : Fit p.v) (h' : Fit p.w) : Fit (rupper p).at_ := by
  unfold rupper; split
  · exact h'
  · exact h
end Pd
set_option maxHeartbeats 8000000 in
theorem rlower_any (p : Prd) (A : Option Addr) (n c : Nat) (w : World) : Calls Tryz.prog 68 #[pv p A n c] w fun e w' => e = .returned (rev (Pd.rlower p)) ∧ Below w.heap.size w w' := by
  have hst := store_float
  obtain ⟨nm, t, a, u, l⟩ := p
  have ht : t = 6 ∨ t = 7 ∨ t = 8 ∨ (¬ t = 6 ∧ ¬ t = 7 ∧ ¬ t = 8) := by omega
  rcases ht with rfl | rfl | rfl | ⟨g1, g2, g3⟩
  all_goals
    go_enter Tryz.func68, Tryz.ntmps68
    go_wp2_with fail
    refine bodyPost_ret (results_cell_row rfl _ _ _ _ _ _ _ rfl (alloc2_new _ _ _) Tryz.underlying82 rfl (by kernel_rfl)) rfl ?_
    first | exact ⟨rfl, two_new _ _ _⟩ | exact ⟨by simp [Pd.rlower, g1, g2, g3], two_new _ _ _⟩
set_option maxHeartbeats 8000000 in
theorem rupper_any (p : Prd) (A : Option Addr) (n c : Nat) (w : World) : Calls Tryz.prog 69 #[pv p A n c] w fun e w' => e = .returned (rev (Pd.rupper p)) ∧ Below w.heap.size w w' := by
  have hst := store_float
  obtain ⟨nm, t, a, u, l⟩ := p
  have ht : t = 4 ∨ t = 5 ∨ t = 8 ∨ (¬ t = 4 ∧ ¬ t = 5 ∧ ¬ t = 8) := by omega
  rcases ht with rfl | rfl | rfl | ⟨g1, g2, g3⟩
  all_goals
    go_enter Tryz.func69, Tryz.ntmps69
    go_wp2_with fail
    refine bodyPost_ret (results_cell_row rfl _ _ _ _ _ _ _ rfl (alloc2_new _ _ _) Tryz.underlying82 rfl (by kernel_rfl)) rfl ?_
    first | exact ⟨rfl, two_new _ _ _⟩ | exact ⟨by simp [Pd.rupper, g1, g2, g3], two_new _ _ _⟩
theorem ended_any (p : Prd) (A : Option Addr) (n c : Nat) (w : World) : Calls Tryz.prog 66 #[pv p A n c] w fun e w' => e = .returned (.bool (Pd.hasEnds p)) ∧ Below w.heap.size w w' := by
  rw [← Pd.ended_of]
  obtain ⟨nm, t, a, u, l⟩ := p
  by_cases h : 4 ≤ t
  all_goals
    go_enter Tryz.func66, Tryz.ntmps66
    go_wp2_with fail
    go_ret
    exact ⟨ret_bool (by first | (simp [h]; done) | (simp; omega)), one_new _ _⟩
set_option maxHeartbeats 8000000 in
theorem rwithin_any {q p : En} (hq : Fit q.at_) (hp : Fit p.at_) (i : Int) (hi : i = 1 ∨ i = -1) (w : World) : Calls Tryz.prog 67 #[rev q, rev p, .int .i64 i] w fun e w' => e = .returned (.bool (Pd.within q p i)) ∧ Below w.heap.size w w' := by
  obtain ⟨W, hW1, hW, hB, hV⟩ := world_ree w q p
  have HW := Lib.hid hW
  have HW1 := Lib.hid hW1
  have HC := Lib.hid (fun w' => rvcmp_v hq hp w')
  have hrg := Vl.range q.at_ p.at_
  clear hW hW1 hq hp
  obtain ⟨c0, c1, c2, c3, c4, c5, c6⟩ := hB
  obtain ⟨d0, d1, d2, d3, d4, d5, d6⟩ := hV
  obtain ⟨qt, qo, qa⟩ := q
  obtain ⟨pt, po, pa⟩ := p
  unfold Pd.within
  dsimp only at c0 c1 c2 c3 c4 c5 c6 d0 d1 d2 d3 d4 d5 d6 HC hrg ⊢
  generalize Vl.cmp qa pa = cc at HC hrg ⊢
  generalize Vl.ok qa pa = kk at HC ⊢
  haveI := later_some W
  cases pt
  · go_enter Tryz.func67, Tryz.ntmps67
    go_wp2_with fail
    go_ret
    exact ⟨ret_bool (by simp), below_then HW.out HW1.out⟩
  have hcc : cc = -1 ∨ cc = 0 ∨ cc = 1 := by omega
  clear hrg
  cases qt
  · go_enter Tryz.func67, Tryz.ntmps67
    go_wp2_with fail
    refine (calls_later (x := ⟨_, HW1.out⟩) (HC.out _)).mono ?_
    rintro e _ ⟨rfl, y, rfl⟩
    clear HW1 HC hcc
    go_wp2_with fail
    go_ret
    exact ⟨ret_bool (by simp), below_then HW.out (Later.below _)⟩
  go_enter Tryz.func67, Tryz.ntmps67
  go_wp2_with fail
  refine (calls_later (x := ⟨_, HW1.out⟩) (HC.out _)).mono ?_
  rintro e _ ⟨rfl, y, rfl⟩
  clear HW1 HC
  cases kk
  · clear hcc
    go_wp2_with fail
    go_ret
    exact ⟨ret_bool (by simp), below_then HW.out (Later.below _)⟩
  rcases hi with rfl | rfl <;> rcases hcc with rfl | rfl | rfl <;> cases po
  all_goals
    go_wp2_with fail
    go_ret
    exact ⟨ret_bool (by simp), below_then HW.out (Later.below _)⟩
theorem rwithin_at {q p : En} (hq : Fit q.at_) (hp : Fit p.at_) {i : Int} (hi : i = 1 ∨ i = -1) {b : Bool} (h : Pd.within q p i = b) {W : World} {x : Later W} : Calls Tryz.prog 67 #[rev q, rev p, .int .i64 i] x.at_ fun e w' => e = .returned (.bool b) ∧ ∃ y : Later W, w' = y.at_ := h ▸ calls_later (rwithin_any hq hp i hi _)
namespace Pd
theorem preI_9 {q : Val} (hq : q.k = 3) {p : Prd} (h : p.t = 9) : pre q.s p.v.s = preI q p := by simp [preI, takes, h, hq]
theorem preI_7 {q : Val} {p : Prd} (h : p.t = 7) : preI q p = (Vl.ok q p.v && decide (0 ≤ Vl.cmp q p.v)) := by simp [preI, takes, h]
theorem preI_6 {q : Val} {p : Prd} (h : p.t = 6) : preI q p = (Vl.ok q p.v && decide (0 < Vl.cmp q p.v)) := by simp [preI, takes, h]
theorem preI_no {q : Val} {p : Prd} (h : ¬ p.t = 9) (h7 : ¬ p.t = 7) (h6 : ¬ p.t = 6) : preI q p = false := by simp [preI, h, h7, h6]
theorem right_set' {q : Prd} (h : right q = true) (ht : q.t = 10) : ∀ a, a ∈ q.set → Vl.right a = true := by
  obtain ⟨nm, t, v, u, l⟩ := q
  simp only at ht
  subst ht
  exact right_set h
theorem sameT_eq (q p : Prd) : sameT q p = (decide (q.t = p.t) && Vl.same q.v p.v && Vl.same q.w p.w && sames q.set p.set) := rfl
end Pd
set_option pp.deepTerms true in
set_option pp.maxSteps 1000000 in
set_option maxRecDepth 100000 in
set_option maxHeartbeats 16000000 in
theorem rimplies_any {q p : Prd} {A B : Option Addr} {n c m d : Nat} {w : World} (h : IsPrd w q A n) (h' : IsPrd w p B m) : Calls Tryz.prog 41 #[pv q A n c, pv p B m d] w fun e w' => e = .returned (.bool (Pd.implies q p)) ∧ Below w.heap.size w w' := by
  obtain ⟨W, hW1, hW, hB, hV⟩ := world_pp w q A n c p B m d
  have HQ := Lib.hid (h.later hW)
  have HP := Lib.hid (h'.later hW)
  obtain rfl : q.set.length = n := h.set.len
  have hfew := h.set.few
  have HW := Lib.hid hW
  have HW1 := Lib.hid hW1
  clear h h' hW hW1
  obtain ⟨c0, c1, c2, c3, c4, c5, c6, c7, c8, c9, c10, c11, c12⟩ := hB
  obtain ⟨d0, d1, d2, d3, d4, d5, d6, d7, d8, d9, d10, d11, d12⟩ := hV
  haveI := later_some W
  generalize hI : Pd.implies q p = I
  have HI := Lib.hid hI
  clear hI
  have hpvs := HP.out.fv.txt
  have hqvs := HQ.out.fv.txt
  have FQV := Lib.hid HQ.out.fv
  have FPV := Lib.hid HP.out.fv
  have FLQ := Lib.hid (Pd.rlower_fit HQ.out.fv)
  have FLP := Lib.hid (Pd.rlower_fit HP.out.fv)
  have FUQ := Lib.hid (Pd.rupper_fit HQ.out.fv HQ.out.fw)
  have FUP := Lib.hid (Pd.rupper_fit HP.out.fv HP.out.fw)
  go_enter Tryz.func41, Tryz.ntmps41
  go_wp2_with fail
  refine (rpright_l (x := ⟨_, HW1.out⟩) HQ.out).mono ?_
  rintro e _ ⟨rfl, y, rfl⟩
  clear HW1
  cases r1 : Pd.right q
  · have HE := Lib.hid (HI.out.symm.trans (Pd.imp_wrong (p := p) (.inl r1)))
    go_wp2_with fail
    go_ret
    exact ⟨ret_bool HE.out.symm, below_then HW.out (Later.below _)⟩
  have R1 := Lib.hid r1
  clear r1
  go_wp2_with fail
  refine (rpright_l HP.out).mono ?_
  rintro e _ ⟨rfl, y, rfl⟩
  cases r2 : Pd.right p
  · have HE := Lib.hid (HI.out.symm.trans (Pd.imp_wrong (q := q) (.inr r2)))
    go_wp2_with fail
    go_ret
    exact ⟨ret_bool HE.out.symm, below_then HW.out (Later.below _)⟩
  have R2 := Lib.hid r2
  clear r2
  have KQ := Lib.hid (fun (v : Val) (hv : Fit v) (x : Later W) => rtakes_l (c := c) (x := x) HQ.out hv)
  have KP := Lib.hid (fun (v : Val) (hv : Fit v) (x : Later W) => rtakes_l (c := d) (x := x) HP.out hv)
  have kvo := fun (x : Later W) => rvoid_l (c := c) (x := x) HQ.out
  have kq := KQ.out
  have kp := KP.out
  rw [R1.out, Bool.true_and] at kvo
  simp only [R1.out, Bool.true_and] at kq
  simp only [R2.out, Bool.true_and] at kp
  replace KQ := Lib.hid kq
  replace KP := Lib.hid kp
  have KVO := Lib.hid kvo
  clear kvo kq kp
  go_wp2_with fail
  refine (KVO.out _).mono ?_
  rintro e _ ⟨rfl, y, rfl⟩
  cases v1 : Pd.void q
  case true =>
    have HE := Lib.hid (HI.out.symm.trans (Pd.imp_yes R1.out R2.out (.inl v1)))
    go_wp2_with fail
    go_ret
    exact ⟨ret_bool HE.out.symm, below_then HW.out (Later.below _)⟩
  have V1 := Lib.hid v1
  clear v1
  by_cases t1 : p.t = 1
  · have HE := Lib.hid (HI.out.symm.trans (Pd.imp_yes R1.out R2.out (.inr (.inl t1))))
    go_wp2_with fail
    go_ret
    exact ⟨ret_bool HE.out.symm, below_then HW.out (Later.below _)⟩
  go_upto_region 5 with fail
  have KS1 := Lib.hid (fun x : Later W => calls_later (x := x) (rvsame_v q.v p.v x.at_))
  have KS2 := Lib.hid (fun x : Later W => calls_later (x := x) (rvsame_v q.w p.w x.at_))
  have KS3 := Lib.hid (fun x : Later W => rsames_l (c := c) (c' := d) (x := x) HQ.out.set HP.out.set)
  have hse := Pd.sameT_eq q p
  go_cut [23] (fun s wx => s = .bool (Pd.sameT q p) ∧ ∃ y : Later W, wx = y.at_)
  case first =>
    by_cases ht : q.t = p.t
    · have htb : (q.t == p.t) = true := beq_iff_eq.2 ht
      rw [decide_eq_true ht] at hse
      clear ht
      generalize Vl.same q.v p.v = s1 at KS1 hse
      generalize Vl.same q.w p.w = s2 at KS2 hse
      have HSE := Lib.hid hse
      clear hse
      cases s1 <;> cases s2
      all_goals
        go_wp2_with (first | (go_at_call 61; first | (with_reducible refine (KS1.out _).mono ?_; rintro e _ ⟨rfl, y, rfl⟩) | (with_reducible refine (KS2.out _).mono ?_; rintro e _ ⟨rfl, y, rfl⟩)) | (go_at_call 62; refine (KS3.out _).mono ?_; rintro e _ ⟨rfl, y, rfl⟩) | fail)
        go_meet
        exact ⟨by rw [HSE.out]; rfl, _, rfl⟩
    · have htb : (q.t == p.t) = false := beq_eq_false_iff_ne.2 ht
      rw [decide_eq_false ht] at hse
      have HSE := Lib.hid hse
      clear hse ht
      go_wp2_with fail
      go_meet
      exact ⟨by rw [HSE.out]; rfl, _, rfl⟩
  case rest =>
    obtain ⟨rfl, y', rfl⟩ := hcut
    clear hse KS1 KS2 KS3 KVO
    cases s1 : Pd.sameT q p
    case true =>
      have HE := Lib.hid (HI.out.symm.trans (Pd.imp_yes R1.out R2.out (.inr (.inr s1))))
      go_wp2_with fail
      go_ret
      exact ⟨ret_bool HE.out.symm, below_then HW.out (Later.below _)⟩
    have HX := Lib.hid (⟨R1.out, R2.out, V1.out, t1, s1⟩ : Pd.Past q p)
    clear V1 s1 t1
    by_cases t3 : p.t = 3
    · have HE := Lib.hid (HI.out.symm.trans (HX.out.n3 t3))
      clear HI
      have u1 := fun x => (d1 x).trans (congrArg (fun z => some (Value.int .i64 z)) t3)
      clear t3 d1
      go_wp2_with (first | (go_at_call 33; refine (KQ.out _ FPV.out _).mono ?_; rintro e _ ⟨rfl, y, rfl⟩) | fail)
      go_ret
      exact ⟨ret_bool HE.out.symm, below_then HW.out (Later.below _)⟩
    by_cases q2 : q.t = 2
    · have HE := Lib.hid (HI.out.symm.trans (HX.out.q2 t3 q2))
      clear HI
      have u1 := fun x => (c1 x).trans (congrArg (fun z => some (Value.int .i64 z)) q2)
      clear q2 c1
      go_wp2_with (first | (go_at_call 33; refine (KP.out _ FQV.out _).mono ?_; rintro e _ ⟨rfl, y, rfl⟩) | fail)
      go_ret
      exact ⟨ret_bool HE.out.symm, below_then HW.out (Later.below _)⟩
    by_cases q10 : q.t = 10
    · have HE := Lib.hid (HI.out.symm.trans (HX.out.q10 t3 q2 q10))
      have HSR := Lib.hid (Pd.right_set' R1.out q10)
      clear HI
      have u1 := fun x => (c1 x).trans (congrArg (fun z => some (Value.int .i64 z)) q10)
      clear q10 c1 q2
      go_wp2_with fail
      go_loopw [5] (fun ii wr => ∃ (k : Nat) (x : Later W), k ≤ q.set.length ∧ ii = .int .i64 (k : Int) ∧ q.set.all (fun v => Pd.nan v || Pd.takes p v) = (q.set.drop k).all (fun v => Pd.nan v || Pd.takes p v) ∧ wr = x.at_) (fun ii _ => q.set.length - (intOf ii).toNat)
      case atStart => exact ⟨0, y', by omega, rfl, rfl, rfl⟩
      case round =>
        obtain ⟨k, x, hk, rfl, hl, rfl⟩ := hrel
        have HK := Lib.hid hl
        clear hl
        by_cases hlt : k < q.set.length
        · obtain ⟨g, o, rfl, hg⟩ := HQ.out.set.at (by omega)
          obtain ⟨b, hb⟩ : ∃ b, q.set[k]? = some b := ⟨_, List.getElem?_eq_getElem hlt⟩
          have HG := Lib.hid hb
          have hfb := HQ.out.set.fit b (List.mem_of_getElem? hb)
          have hrb := HSR.out b (List.mem_of_getElem? hb)
          have e0 := later_cell (hg k b hb).h0
          have e1 := later_cell (hg k b hb).h1
          have e2 := later_cell (hg k b hb).h2
          have e3 := later_cell (hg k b hb).h3
          have e4 := later_cell (hg k b hb).h4
          have ki := fun x : Later W => calls_later (x := x) (rvis_v hfb hfb x.at_)
          rw [is_nan hrb] at ki
          have KT := Lib.hid (fun x : Later W => KP.out b hfb x)
          clear hg hb hrb
          go_upto_region 15 with fail
          cases hnb : Pd.nan b
          · rw [hnb, Bool.not_false] at ki
            have KI := Lib.hid ki
            clear ki
            cases htb : Pd.takes p b
            · have kt := KT.out
              rw [htb] at kt
              replace KT := Lib.hid kt
              clear kt
              have HM := Lib.hid (Pd.all_bad (f := fun v => Pd.nan v || Pd.takes p v) HG.out (by simp [hnb, htb]))
              refine wp_region_later (W := W) (by kernel_rfl) (by kernel_rfl) (Later.below _) ?_
              repeat (go_big_quiet_step (first | (go_at_call 59; exact KI.out _) | (go_at_call 33; exact KT.out _)))
              refine wpQuiet_nil ?_
              clear e0 e1 e2 e3 e4
              rintro _ ⟨y', rfl⟩
              go_wp2_with fail
              go_ret
              exact ⟨ret_bool (by rw [HE.out]; exact HM.out.symm), below_then HW.out (Later.below _)⟩
            · have kt := KT.out
              rw [htb] at kt
              replace KT := Lib.hid kt
              clear kt
              have HM := Lib.hid (Pd.all_good (f := fun v => Pd.nan v || Pd.takes p v) HG.out HK.out (by simp [hnb, htb]))
              refine wp_region_later (W := W) (by kernel_rfl) (by kernel_rfl) (Later.below _) ?_
              repeat (go_big_quiet_step (first | (go_at_call 59; exact KI.out _) | (go_at_call 33; exact KT.out _)))
              refine wpQuiet_nil ?_
              clear e0 e1 e2 e3 e4
              rintro _ ⟨y', rfl⟩
              go_wp2_with fail
              exact ⟨⟨k + 1, y', by omega, rfl, HM.out, rfl⟩, by simp [intOf]; omega⟩
          · rw [hnb, Bool.not_true] at ki
            have KI := Lib.hid ki
            clear ki
            have HM := Lib.hid (Pd.all_good (f := fun v => Pd.nan v || Pd.takes p v) HG.out HK.out (by simp [hnb]))
            refine wp_region_later (W := W) (by kernel_rfl) (by kernel_rfl) (Later.below _) ?_
            repeat (go_big_quiet_step (first | (go_at_call 59; exact KI.out _)))
            refine wpQuiet_nil ?_
            clear e0 e1 e2 e3 e4
            rintro _ ⟨y', rfl⟩
            go_wp2_with fail
            exact ⟨⟨k + 1, y', by omega, rfl, HM.out, rfl⟩, by simp [intOf]; omega⟩
        · have HM := Lib.hid (Pd.all_end hlt HK.out)
          go_wp2_with fail
          go_ret
          exact ⟨ret_bool (by rw [HE.out]; exact HM.out.symm), below_then HW.out (Later.below _)⟩
    have KEQ := Lib.hid (fun x : Later W => calls_later (x := x) (ended_any q A q.set.length c x.at_))
    have KEP := Lib.hid (fun x : Later W => calls_later (x := x) (ended_any p B m d x.at_))
    go_wp2_with fail
    refine (KEQ.out _).mono ?_
    rintro e _ ⟨rfl, y, rfl⟩
    cases e1 : Pd.hasEnds q
    · by_cases q9 : q.t = 9
      · have HE := Lib.hid (HI.out.symm.trans (HX.out.q9 t3 q2 q10 (by rw [e1]; rfl) q9))
        have HK3 := Lib.hid (Pd.right_text R1.out q9)
        clear HI
        have u1 := fun x => (c1 x).trans (congrArg (fun z => some (Value.int .i64 z)) q9)
        clear q9 q10 q2 c1
        by_cases p9 : p.t = 9
        · have HE := Lib.hid (HE.out.trans (Pd.preI_9 HK3.out p9).symm)
          have v1 := fun x => (d1 x).trans (congrArg (fun z => some (Value.int .i64 z)) p9)
          clear p9 d1
          go_wp2_with (first | (go_at_call 58; refine (calls_later_same (rhas_any _ _ hqvs hpvs _)).mono ?_; rintro e _ ⟨rfl, y, rfl⟩) | fail)
          go_ret
          exact ⟨ret_bool HE.out.symm, below_then HW.out (Later.below _)⟩
        by_cases p7 : p.t = 7
        · have HE := Lib.hid (HE.out.trans (Pd.preI_7 p7))
          have v1 := fun x => (d1 x).trans (congrArg (fun z => some (Value.int .i64 z)) p7)
          clear p7 d1
          have hrg := Vl.range q.v p.v
          go_wp2_with fail
          refine (calls_later (rvcmp_v FQV.out FPV.out _)).mono ?_
          rintro e _ ⟨rfl, y, rfl⟩
          generalize Vl.cmp q.v p.v = cc at hrg HE ⊢
          generalize Vl.ok q.v p.v = kk at HE ⊢
          have hcc : cc = -1 ∨ cc = 0 ∨ cc = 1 := by omega
          clear hrg
          cases kk <;> rcases hcc with rfl | rfl | rfl
          all_goals
            go_wp2_with fail
            go_ret
            exact ⟨ret_bool (by rw [HE.out]; rfl), below_then HW.out (Later.below _)⟩
        by_cases p6 : p.t = 6
        · have HE := Lib.hid (HE.out.trans (Pd.preI_6 p6))
          have v1 := fun x => (d1 x).trans (congrArg (fun z => some (Value.int .i64 z)) p6)
          clear p6 d1
          have hrg := Vl.range q.v p.v
          go_wp2_with fail
          refine (calls_later (rvcmp_v FQV.out FPV.out _)).mono ?_
          rintro e _ ⟨rfl, y, rfl⟩
          generalize Vl.cmp q.v p.v = cc at hrg HE ⊢
          generalize Vl.ok q.v p.v = kk at HE ⊢
          have hcc : cc = -1 ∨ cc = 0 ∨ cc = 1 := by omega
          clear hrg
          cases kk <;> rcases hcc with rfl | rfl | rfl
          all_goals
            go_wp2_with fail
            go_ret
            exact ⟨ret_bool (by rw [HE.out]; rfl), below_then HW.out (Later.below _)⟩
        have HE := Lib.hid (HE.out.trans (Pd.preI_no p9 p7 p6))
        have b9 : (p.t == 9) = false := beq_eq_false_iff_ne.2 p9
        have b7 : (p.t == 7) = false := beq_eq_false_iff_ne.2 p7
        have b6 : (p.t == 6) = false := beq_eq_false_iff_ne.2 p6
        clear p9 p7 p6
        go_wp2_with fail
        go_ret
        exact ⟨ret_bool HE.out.symm, below_then HW.out (Later.below _)⟩
      · have HE := Lib.hid (HI.out.symm.trans (HX.out.no t3 q2 q10 (by rw [e1]; rfl) q9))
        clear HI
        go_wp2_with fail
        go_ret
        exact ⟨ret_bool HE.out.symm, below_then HW.out (Later.below _)⟩
    have q9 : ¬ q.t = 9 := by
      have := Pd.ended_of q
      rw [e1, Bool.and_eq_true, decide_eq_true_eq, decide_eq_true_eq] at this
      omega
    go_wp2_with fail
    refine (KEP.out _).mono ?_
    rintro e _ ⟨rfl, y, rfl⟩
    cases e2 : Pd.hasEnds p
    · have HE := Lib.hid (HI.out.symm.trans (HX.out.no t3 q2 q10 (by rw [e2]; simp) q9))
      clear HI
      go_wp2_with fail
      go_ret
      exact ⟨ret_bool HE.out.symm, below_then HW.out (Later.below _)⟩
    have HE := Lib.hid (HI.out.symm.trans (HX.out.ends t3 q2 q10 e1 e2))
    clear HI
    rw [← Pd.rwithin_lo, ← Pd.rwithin_up] at HE
    have LQ := Lib.hid (fun x : Later W => calls_later (x := x) (rlower_any q A q.set.length c x.at_))
    have LP := Lib.hid (fun x : Later W => calls_later (x := x) (rlower_any p B m d x.at_))
    have UQ := Lib.hid (fun x : Later W => calls_later (x := x) (rupper_any q A q.set.length c x.at_))
    have UP := Lib.hid (fun x : Later W => calls_later (x := x) (rupper_any p B m d x.at_))
    go_upto_region 19 with fail
    generalize Pd.rlower q = lq at LQ FLQ HE
    generalize Pd.rlower p = lp at LP FLP HE
    generalize Pd.rupper q = uq at UQ FUQ HE
    generalize Pd.rupper p = up at UP FUP HE
    cases i1 : Pd.within lq lp 1
    all_goals
      refine wp_region_later (W := W) (by kernel_rfl) (by kernel_rfl) (Later.below _) ?_
      repeat (go_big_quiet_step (first | (go_at_call 68; first | with_reducible exact LQ.out _ | with_reducible exact LP.out _) | (go_at_call 69; first | with_reducible exact UQ.out _ | with_reducible exact UP.out _) | (go_at_call 67; first | with_reducible exact rwithin_at FLQ.out FLP.out (.inl rfl) i1 | with_reducible exact rwithin_at FUQ.out FUP.out (.inr rfl) rfl)))
      refine wpQuiet_nil ?_
      rintro _ ⟨x, rfl⟩
      go_wp2_with fail
      go_ret
      exact ⟨ret_bool (by rw [HE.out, i1]; rfl), below_then HW.out x.below⟩
theorem rimplies_l {q p : Prd} {A B : Option Addr} {n c m d : Nat} {W : World} {x : Later W} (h : IsPrd W q A n) (h' : IsPrd W p B m) : Calls Tryz.prog 41 #[pv q A n c, pv p B m d] x.at_ fun e w' => e = .returned (.bool (Pd.implies q p)) ∧ ∃ y : Later W, w' = y.at_ := calls_later (rimplies_any (h.later x.below) (h'.later x.below))
end Go.Proofs.YtfbfbajccphkoaaGreat
