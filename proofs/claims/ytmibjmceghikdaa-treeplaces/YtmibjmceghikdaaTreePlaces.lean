
/- TreePlaces: no broker is nearer, in all, to some than their Place, and none with a lesser number as near; it hangs on no order. -/
import Derived.Test.YtmibjmceghikdaaTreeWays
import Derived.Test.YtmibjmceghikdaaHeld
namespace Go.Proofs.Ytmibjmceghikdaa
open Go.RowKit
set_option linter.unusedVariables false

set_option maxRecDepth 100000 in
set_option maxHeartbeats 8000000 in
theorem psum_any {W w : World} {Ap Aq : Option Addr} {cp cq : Nat} {p q : List Int} {gp gq : Nat} (hp : Ri W Ap p.length p) (hq : Ri W Aq q.length q) (hcp : W.cell? ⟨gp, 0, none⟩ = some (.slice Ap p.length cp)) (hcq : W.cell? ⟨gq, 0, none⟩ = some (.slice Aq q.length cq))
    (hh : Tr.has p q = true) (hql : q.length ≤ 100) (hB : Below W.heap.size W w) (x : Nat) (hx : x ≤ p.length) :
    Calls Try.prog 28 #[.int .i64 (x : Int), .pointer (some ⟨gq, 0, none⟩), .pointer (some ⟨gp, 0, none⟩)] w fun e w' => e = .returned (.int .i64 (Tr.far p x q : Int)) ∧ Below W.heap.size W w' := by
  have hr := Tr.has_right hh
  have h7 := Tr.right_len hr
  have HP := Lib.hid hp
  have HQ := Lib.hid hq
  have HR := Lib.hid hr
  have HH := Lib.hid hh
  have HCP := Lib.hid hcp
  have HCQ := Lib.hid hcq
  have HB := Lib.hid hB
  clear hp hq hr hh hcp hcq hB
  go_enter Try.func28, Try.ntmps28
  go_wp2_with fail
  go_loopw [5, 6] (fun xs ii wr => ∃ k s : Nat, k ≤ q.length ∧ ii = .int .i64 (k : Int) ∧ xs = .int .i64 (s : Int) ∧ s ≤ 7 * k ∧ Tr.far p x q = s + Tr.far p x (q.drop k) ∧ Below W.heap.size W wr) (fun _ ii _ => q.length - (intOf ii).toNat)
  case atStart => exact ⟨0, 0, by omega, rfl, rfl, by omega, by simp, HB.out⟩
  case round =>
    obtain ⟨k, s, hk, rfl, rfl, hs, hl, hL⟩ := hrel
    have HL := Lib.hid hl
    have HB2 := Lib.hid hL
    have c1 := load_later hL HCQ.out
    clear hl hL HB
    by_cases hlt : k < q.length
    · obtain ⟨rb, ro, u, rfl, hu, hc⟩ := HQ.out.at_ hlt
      have hu2 := Tr.has_get HH.out hu
      obtain ⟨y, rfl⟩ : ∃ y : Nat, u = (y : Int) := ⟨u.toNat, by omega⟩
      have HU := Lib.hid ((Tr.far_drop (l := p) (b := x) hu).trans (by rw [Int.toNat_natCast]))
      have hd := Tr.dist_le p _ x y (Nat.le_refl _)
      have hd7 : Tr.dist p x y ≤ 7 := by omega
      have c2 := fun z : Later wr => later_cell (load_later HB2.out HCP.out) z
      have c3 := fun z : Later wr => later_cell c1 z
      have c4 := fun z : Later wr => later_cell (load_later HB2.out hc) z
      have hyl : y ≤ p.length := by omega
      have KD := Lib.hid (fun z : Later wr => show Calls Try.prog 13 #[.slice Ap p.length cp, .int .i64 (x : Int), .int .i64 (y : Int)] z.at_ fun e w' => e = .returned (.int .i64 (Tr.dist p x y : Int)) ∧ Below z.at_.heap.size z.at_ w' by
        have := dist_any (c := cp) ((HP.out.later HB2.out).later z.below) (by omega) (x : Int) (y : Int)
        rw [dists_at HR.out hx hyl] at this
        exact this)
      clear hu hd hu2 hc
      generalize Tr.dist p x y = D at KD HU hd7
      haveI := later_some wr
      go_wp2_with fail
      refine wp_region_later (W := wr) (by kernel_rfl) (by kernel_rfl) (Below.refl _ _) ?_
      repeat (go_big_quiet_step (first | (go_at_call 13; exact calls_later (KD.out _))))
      refine wpQuiet_nil ?_
      rintro _ ⟨z, rfl⟩
      go_wp2_with fail
      exact ⟨⟨k + 1, s + D, by omega, by simp, by simp, by omega, by rw [HL.out, HU.out, Nat.add_assoc], then_below HB2.out z.below⟩, by simp [intOf]; omega⟩
    · go_wp2_with fail
      go_ret
      exact ⟨by rw [HL.out, List.drop_eq_nil_of_le (by omega)]; rfl, HB2.out⟩

theorem step_owni_lies {w : World} {o : Oper} {a : Act} {K : Act → World → Prop} {Q : Exit → Act → World → Prop} (s x : Operand)
    (ho : o.op = .call { callee := .builtin .append, args := #[s, x], argTypes := #[22, 22] })
    (B : Nat) (v : Value) (l : List Int) (hs : a.eval s = v) (hown : OwnI B w v l) (z : Int) (hx : a.eval x = .slice (some ⟨w.heap.size, 0, none⟩) 1 1) (hlen : l.length ≤ 1000000)
    (h : ∀ g cap w', OwnI B w' (.slice (some ⟨g, 0, none⟩) (l.length + 1) cap) (l ++ [z]) → Kept (fun i => v.ownBlock = some i) w w' → (v.ownBlock = some g ∨ w.heap.size ≤ g) → K (a.put o.dst (.slice (some ⟨g, 0, none⟩) (l.length + 1) cap)) w') : Oper.wp Try.prog o a (w.alloc (.cells #[.int .i64 z] 3)) K Q := by
  obtain ⟨i, hi, hz', h1, h2⟩ := int_info
  have hown' : OwnI B (w.alloc (.cells #[icell z] 3)) v l := hown.later ((Below.refl _ _).alloc (Nat.le_refl _) _)
  refine wp_append_lies (w.alloc (.cells #[.int .i64 z] 3)) s x 22 ho B 3 i (.int .i64 0) 1 8 Try.underlying22 hi hz' h1 h2 rfl (by decide) v l.length (l.map icell) hs hown'.1 ⟨w.heap.size, 0, none⟩ 1 1 [icell z] hx rfl ?_ ?_ (by omega) (by unfold maxLen; omega) (by omega) hown'.2 _ rfl ?_
  · intro j y hj
    match j, hj with
    | 0, hj => cases hj; simp [Addr.add]
  · intro y hy
    rw [List.mem_singleton.1 hy]; rfl
  · intro g cap w' ho' hg hl hlt
    have k1 : Kept (fun i => v.ownBlock = some i) w (w.alloc (.cells #[icell z] 3)) := Kept.alloc _ _ _
    have k2 : Kept (fun i => v.ownBlock = some i) (w.alloc (.cells #[icell z] 3)) w' := ⟨hg.os, hg.tape, hg.output, hg.size, fun i hi hs => hg.block i hi (fun e => hs e.symm)⟩
    refine h g cap w' ⟨?_, Nat.le_trans hown.2 (k1.then k2).size⟩ (k1.then k2) (hl.imp id fun e => ?_)
    · rw [List.map_append, List.length_append]
      exact ho'
    · rw [e]; exact k1.size
theorem kept_load {b : Nat} {w x : World} (hx : Kept (fun i => b ≤ i) w x) {p : Addr} {v : Value} (hp : p.block < b) (hc : w.cell? p = some v) : x.cell? p = some v :=
  (hx.cell (p := p) (cell_lt hc) (by omega)).trans hc
/-- The cell of q: what it holds. -/
def Box (g : Nat) (w : World) (v : Value) : Prop := w.cell? ⟨g, 0, none⟩ = some v ∧ w.frozen? ⟨g, 0, none⟩ = false
theorem Box.kept {S : Nat → Prop} {g : Nat} {w w' : World} {v : Value} (h : Box g w v) (k : Kept S w w') (hs : ¬ S g) : Box g w' v :=
  ⟨(k.cell (p := ⟨g, 0, none⟩) (cell_lt h.1) hs).trans h.1, (k.frozen (p := ⟨g, 0, none⟩) (cell_lt h.1) hs).trans h.2⟩
theorem Box.set {g : Nat} {w : World} {v : Value} (h : Box g w v) (u : Value) : Box g (w.setCell ⟨g, 0, none⟩ u) u := by
  constructor
  · have := World.cell?_setCell_same w ⟨g, 0, none⟩ (v := u) (u := v) h.1
    rw [this]
  · rw [World.frozen?_setCell]; exact h.2
/-- The last of a row that was laid on. -/
theorem snoc_cell {B g c : Nat} {w : World} {q : List Int} {x : Int} (h : OwnI B w (.slice (some ⟨g, 0, none⟩) (q.length + 1) c) (q ++ [x])) : w.cell? ⟨g, q.length, none⟩ = some (icell x) := by
  obtain ⟨A, c', e, -, hr, -⟩ := h.reads
  rw [List.length_append] at e hr
  cases e
  obtain ⟨rb, ro, u, e2, hu, hc⟩ := hr.at_ (j := q.length) (by simp)
  cases e2
  rw [Nat.zero_add] at hc
  rw [hc]
  simp at hu
  rw [hu]
theorem Tr.far_rev (l : List Int) (b : Nat) (q : List Int) : Tr.far l b q.reverse = Tr.far l b q := by
  unfold Tr.far; rw [List.map_reverse, List.sum_reverse]
theorem Tr.has_rev (l q : List Int) : Tr.has l q.reverse = Tr.has l q := by unfold Tr.has; rw [List.all_reverse]
theorem Tr.place_rev (l q : List Int) : Tr.place l q.reverse = Tr.place l q := by
  have h : (fun b => Tr.far l b q.reverse) = fun b => Tr.far l b q := funext fun b => Tr.far_rev l b q
  unfold Tr.place
  rw [Tr.has_rev, h]
  by_cases e : q = []
  · subst e; rfl
  · have e2 : q.reverse ≠ [] := fun h => e (List.reverse_eq_nil_iff.1 h)
    simp [e]
theorem owni_sub {B C : Nat} {w : World} {v : Value} {l : List Int} (h : OwnI B w v l) (hc : C ≤ B) : OwnI C w v l := by
  refine ⟨⟨h.1.1, ?_⟩, Nat.le_trans hc h.2⟩
  rcases h.1.2 with hn | ⟨g, cap, cur, rfl, hb, hg, rest⟩
  · exact .inl hn
  · exact .inr ⟨g, cap, cur, rfl, Nat.le_trans hc hb, hg, rest⟩
/-- What the loop's next round begins with. -/
theorem places_next {gp k g cap : Nat} {p q : List Int} {x : Nat} {W2 w4 w6 : World} {v6 : Value} (hk : q.length = k) (hq : ∀ b ∈ q, 0 ≤ b ∧ b ≤ (p.length : Int)) (hx : x ≤ p.length)
    (hv : OwnI (gp + 2) w4 (.slice (some ⟨g, 0, none⟩) (k + 1) cap) (q ++ [(x : Int)])) (hc : Box (gp + 1) w4 (.slice (some ⟨g, 0, none⟩) (k + 1) cap)) (hr : OwnI w4.heap.size w6 v6 ([(x : Int)] ++ q.reverse))
    (h6 : Kept (fun i => w4.heap.size ≤ i) (w4.alloc (.cells #[.int .i64 (x : Int)] 3)) w6) (h5 : Kept (fun i => gp + 1 ≤ i) W2 w4) (h8 : k + 1 ≤ 8) :
    ∃ (k' : Nat) (q' : List Int) (qv : Value), k' ≤ 8 ∧ Value.int .i64 ((k : Int) + 1) = .int .i64 (k' : Int) ∧ q'.length = k' ∧ (∀ b ∈ q', 0 ≤ b ∧ b ≤ (p.length : Int)) ∧ OwnI (gp + 2) w6 qv q' ∧ Box (gp + 1) w6 qv ∧ OwnI (gp + 2) w6 v6 q'.reverse ∧ (∀ i, v6.ownBlock = some i → qv.ownBlock ≠ some i) ∧ Kept (fun i => gp + 1 ≤ i) W2 w6 := by
  have hn : Kept (fun i => w4.heap.size ≤ i) w4 w6 := (Kept.ofBelow (new_below w4 _)).then h6
  have hg := (OwnI.base hv (i := g) rfl).2
  have hcl := cell_lt hc.1
  have hs := hv.2
  refine ⟨k + 1, q ++ [(x : Int)], _, h8, by simp, by simp [hk], fun b hb => ?_, OwnW.kept hv hn (fun i hi e => absurd (OwnI.base hv hi).2 (Nat.not_lt_of_le e)), hc.kept hn (fun e => absurd hcl (Nat.not_lt_of_le e)), ?_, fun i hi e => ?_, ?_⟩
  · rcases List.mem_append.1 hb with h | h
    · exact hq b h
    · rw [List.mem_singleton.1 h]; omega
  · rw [List.reverse_append]
    exact owni_sub hr hs
  · have h1 := (OwnI.base hr hi).1
    have h2 := Option.some.inj e
    dsimp only at h2
    omega
  · exact h5.then (hn.mono fun i _ hi => by omega)

set_option maxRecDepth 100000 in
set_option maxHeartbeats 16000000 in
theorem tplaces_walk (w : World) (A0 : Option Addr) (n0 c0 : Nat) (z0 : List Int) (h0 : IsRow .i64 w A0 n0 c0 z0) (A1 : Option Addr) (n1 c1 : Nat) (z1 : List Int) (h1 : IsRow .i64 w A1 n1 c1 z1) :
    Calls Try.prog 7 #[.slice A0 n0 c0, .slice A1 n1 c1] w fun e w' => e = .returned (.bool true) ∧ Below w.heap.size w w' := by
  have HFN := Lib.hid (fun t => fed_any (c := c0) h0.draws t)
  obtain ⟨r1, hr1, hn1, hc1, hb1⟩ := h1.ri
  have HR1 := Lib.hid hr1
  have HB1 := Lib.hid hb1
  clear h0 h1 hr1 hb1
  go_enter Try.func7, Try.ntmps7
  go_wp2_with fail
  refine (HFN.out _).mono ?_
  rintro e W ⟨Ap, cp, p, rfl, hp, hr, h7, hB, hpa⟩
  have HPA := Lib.hid hpa
  clear hpa
  have HP := Lib.hid hp
  have HR := Lib.hid hr
  have HBW := Lib.hid hB
  have HM := Lib.hid (HR1.out.later hB)
  clear hp hr hB HFN HR1
  go_wp2_with fail
  have hpc : ((W.alloc (.cells #[.slice Ap p.length cp] 22)).alloc (.cells #[.slice none 0 0] 22)).cell? ⟨W.heap.size, 0, none⟩ = some (.slice Ap p.length cp) := by
    have h1 := new_below (W.alloc (.cells #[.slice Ap p.length cp] 22)) (.cells #[.slice none 0 0] 22)
    exact load_later h1 (by rw [World.cell?_alloc_new]; rfl)
  have hqc : Box (W.heap.size + 1) ((W.alloc (.cells #[.slice Ap p.length cp] 22)).alloc (.cells #[.slice none 0 0] 22)) (.slice none 0 0) := by
    constructor
    · rw [show W.heap.size + 1 = (W.alloc (.cells #[.slice Ap p.length cp] 22)).heap.size from (World.size_alloc _ _).symm, World.cell?_alloc_new]; rfl
    · simp
  have hW2 : ((W.alloc (.cells #[.slice Ap p.length cp] 22)).alloc (.cells #[.slice none 0 0] 22)).heap.size = W.heap.size + 2 := by rw [World.size_alloc, World.size_alloc]
  have hbw := then_below (new_below W (.cells #[.slice Ap p.length cp] 22)) (new_below _ (.cells #[.slice none 0 0] 22))
  generalize (W.alloc (.cells #[.slice Ap p.length cp] 22)).alloc (.cells #[.slice none 0 0] 22) = W2 at hpc hqc hW2 hbw ⊢
  have HM2 := Lib.hid (HM.out.later hbw)
  have HPC := Lib.hid hpc
  have HQC := Lib.hid hqc
  have HBW2 := Lib.hid hbw
  have hmb : ∀ ad, A1 = some ad → n1 ≠ 0 → ad.block < W.heap.size + 1 := fun ad e h => by
    have := HB1.out ad e h; have := HBW.out.size; omega
  have HMB := Lib.hid hmb
  clear hpc hqc hbw hmb HM
  generalize hgp : W.heap.size = gp at HPC HQC hW2 HMB ⊢
  have HGP := Lib.hid hgp
  clear hgp
  go_loopw [8, 9] (fun xr ii wr => ∃ (k : Nat) (q : List Int) (qv : Value), k ≤ 8 ∧ ii = .int .i64 (k : Int) ∧ q.length = k ∧ (∀ b ∈ q, 0 ≤ b ∧ b ≤ (p.length : Int)) ∧ OwnI (gp + 2) wr qv q ∧ Box (gp + 1) wr qv ∧ OwnI (gp + 2) wr xr q.reverse ∧ (∀ i, xr.ownBlock = some i → qv.ownBlock ≠ some i) ∧ Kept (fun i => gp + 1 ≤ i) W2 wr) (fun _ ii _ => 8 - (intOf ii).toNat)
  case atStart => exact ⟨0, [], _, by omega, rfl, rfl, (fun b hb => by cases hb), OwnI.nil _ (by omega), HQC.out, OwnI.nil _ (by omega), (fun i e => by cases e), Kept.refl _ _⟩
  case round =>
    obtain ⟨k, q, qv, hk, rfl, hql, hqr, hq, hqc, hr, hne, hK⟩ := hrel
    obtain ⟨Ar, cr, rfl, -, hrr, hrA⟩ := hr.reads
    obtain ⟨Aq, cq, rfl, -, -, -⟩ := hq.reads
    have hrr' : Ri wr Ar q.length q.reverse := by rw [List.length_reverse] at hrr; exact hrr
    have HRR := Lib.hid hrr'
    clear hrr'
    have hr := OwnI.sized hr List.length_reverse
    rw [List.length_reverse] at hne ⊢
    have HQ := Lib.hid hq
    have HC := Lib.hid hqc
    have HRv := Lib.hid hr
    have HNE := Lib.hid hne
    have HK := Lib.hid hK
    have HQR := Lib.hid hqr
    have hwr := HK.out.size
    clear hq hqc hr hne hK hqr hrr hrA HQC
    by_cases hlt : k < n1 ∧ k < 8
    · obtain ⟨rb, ro, u, rfl, hu, hc⟩ := (HM2.out.keep HK.out fun ad e h => by have := HMB.out ad e h; omega).at_ hlt.1
      have hrb : rb < gp + 1 := HMB.out _ rfl (by omega)
      have hpc := kept_load HK.out (p := ⟨gp, 0, none⟩) (by dsimp only; omega) HPC.out
      obtain ⟨x, hx, hxl⟩ := pick_at u (l := p)
      have HX := Lib.hid hx
      have h1 : (k : Int) < (n1 : Int) := by omega
      have h2 : (k : Int) < 8 := by omega
      have hwp : IntKind.i64.wrap ((p.length : Int) + 1) = (p.length : Int) + 1 := IntWalk.i64_in _ (by omega)
      have HCU := Lib.hid hc
      have HCP := Lib.hid hpc
      have HQL := Lib.hid hql
      have hql8 : q.length ≤ 8 := by omega
      clear hu hlt hx hc hpc hql
      go_wp2_with fail
      refine held_begin (fun z => Kept (fun i => gp + 1 ≤ i) wr z) (by kernel_rfl) ?_
      have hd := drew_below wr
      have HB : Hid (Kept (fun i => gp + 1 ≤ i) wr wr.drew) := Lib.hid (Kept.ofBelow hd)
      have HQ2 := Lib.hid (OwnI.later HQ.out hd)
      have HC2 := Lib.hid (HC.out.kept (S := fun _ => False) (Kept.ofBelow hd) id)
      have HR2 := Lib.hid (OwnI.later HRv.out hd)
      clear hd HQ HC HRv
      generalize wr.drew = wd at HB HQ2 HC2 HR2 ⊢
      refine held_read (i := 1) (o := { dst := some 29, op := Op.move (Operand.tmp 1), type := 22, pos := "law.go:139", after := #[], guard := none }) (v := ?_) rfl (by kernel_rfl) (by kernel_rfl) (by kernel_rfl) (fun _ _ _ h => h) (by rfl) HB.out ?_ ?_
      rotate_left
      · (intro x hx; have e1 := kept_load hx (p := ⟨rb, ro + k, none⟩) hrb HCU.out; have e2 := kept_load hx (p := ⟨gp, 0, none⟩) (Nat.lt_succ_self gp) HCP.out; go_simp; try with_reducible rfl)
      try simp only [Act.put, List.setIfInBounds_toArray, List.set_cons_zero, List.set_cons_succ]
      refine held_read (i := 2) (o := { dst := some 30, op := Op.move (Operand.tmp 9), type := 3, pos := "law.go:139", after := #[], guard := none }) (v := ?_) rfl (by kernel_rfl) (by kernel_rfl) (by kernel_rfl) (fun _ _ _ h => h) (by rfl) HB.out ?_ ?_
      rotate_left
      · (intro x hx; have e1 := kept_load hx (p := ⟨rb, ro + k, none⟩) hrb HCU.out; have e2 := kept_load hx (p := ⟨gp, 0, none⟩) (Nat.lt_succ_self gp) HCP.out; go_simp; try with_reducible rfl)
      try simp only [Act.put, List.setIfInBounds_toArray, List.set_cons_zero, List.set_cons_succ]
      refine held_read (i := 3) (o := { dst := some 31, op := Op.indexAddr 22 (Operand.tmp 29) (Operand.tmp 30), type := 0, pos := "law.go:139", after := #[{ on := 1, ground := Ground.data }, { on := 2, ground := Ground.data }], guard := none }) (v := ?_) rfl (by kernel_rfl) (by kernel_rfl) (by kernel_rfl) (fun _ _ _ h => h) (by rfl) HB.out ?_ ?_
      rotate_left
      · (intro x hx; have e1 := kept_load hx (p := ⟨rb, ro + k, none⟩) hrb HCU.out; have e2 := kept_load hx (p := ⟨gp, 0, none⟩) (Nat.lt_succ_self gp) HCP.out; go_simp; try with_reducible rfl)
      try simp only [Act.put, List.setIfInBounds_toArray, List.set_cons_zero, List.set_cons_succ]
      refine held_read (i := 4) (o := { dst := some 32, op := Op.load 3 (Operand.tmp 31), type := 3, pos := "law.go:139", after := #[{ on := 3, ground := Ground.data }], guard := none }) (v := ?_) rfl (by kernel_rfl) (by kernel_rfl) (by kernel_rfl) (fun _ _ _ h => h) (by rfl) HB.out ?_ ?_
      rotate_left
      · (intro x hx; have e1 := kept_load hx (p := ⟨rb, ro + k, none⟩) hrb HCU.out; have e2 := kept_load hx (p := ⟨gp, 0, none⟩) (Nat.lt_succ_self gp) HCP.out; go_simp; try with_reducible rfl)
      try simp only [Act.put, List.setIfInBounds_toArray, List.set_cons_zero, List.set_cons_succ]
      refine held_read (i := 5) (o := { dst := some 33, op := Op.load 22 (Operand.tmp 6), type := 22, pos := "law.go:139", after := #[], guard := none }) (v := ?_) rfl (by kernel_rfl) (by kernel_rfl) (by kernel_rfl) (fun _ _ _ h => h) (by rfl) HB.out ?_ ?_
      rotate_left
      · (intro x hx; have e1 := kept_load hx (p := ⟨rb, ro + k, none⟩) hrb HCU.out; have e2 := kept_load hx (p := ⟨gp, 0, none⟩) (Nat.lt_succ_self gp) HCP.out; go_simp; try with_reducible rfl)
      try simp only [Act.put, List.setIfInBounds_toArray, List.set_cons_zero, List.set_cons_succ]
      refine held_read (i := 6) (o := { dst := some 34, op := Op.call { callee := Callee.builtin Builtin.len, args := #[Operand.tmp 33], argTypes := #[22] }, type := 3, pos := "law.go:139", after := #[{ on := 5, ground := Ground.data }], guard := none }) (v := ?_) rfl (by kernel_rfl) (by kernel_rfl) (by kernel_rfl) (fun _ _ _ h => h) (by rfl) HB.out ?_ ?_
      rotate_left
      · (intro x hx; have e1 := kept_load hx (p := ⟨rb, ro + k, none⟩) hrb HCU.out; have e2 := kept_load hx (p := ⟨gp, 0, none⟩) (Nat.lt_succ_self gp) HCP.out; go_simp; try with_reducible rfl)
      try simp only [Act.put, List.setIfInBounds_toArray, List.set_cons_zero, List.set_cons_succ]
      refine held_read (i := 7) (o := { dst := some 35, op := Op.binOp BinOp.add 3 (Operand.tmp 34) (Operand.const (Value.int IntKind.i64 1)) 3, type := 3, pos := "law.go:139", after := #[{ on := 6, ground := Ground.data }], guard := none }) (v := ?_) rfl (by kernel_rfl) (by kernel_rfl) (by kernel_rfl) (fun _ _ _ h => h) (by rfl) HB.out ?_ ?_
      rotate_left
      · (intro x hx; have e1 := kept_load hx (p := ⟨rb, ro + k, none⟩) hrb HCU.out; have e2 := kept_load hx (p := ⟨gp, 0, none⟩) (Nat.lt_succ_self gp) HCP.out; go_simp; try with_reducible rfl)
      try simp only [Act.put, List.setIfInBounds_toArray, List.set_cons_zero, List.set_cons_succ]
      refine held_two (i := 0) (j := 8) (o := { dst := some 28, op := Op.load 22 (Operand.tmp 7), type := 22, pos := "law.go:139", after := #[], guard := none }) (p := { dst := some 36, op := Op.call { callee := Callee.value (Operand.func 25), args := #[Operand.tmp 32, Operand.tmp 35], argTypes := #[3, 3] }, type := 3, pos := "law.go:139", after := #[{ on := 4, ground := Ground.data }, { on := 7, ground := Ground.data }], guard := none }) rfl rfl (by kernel_rfl) (by rfl) (by rfl) (fun K hK => ?_) (fun K hK => ?_)
      · skip
        first | (obtain ⟨hgc, hgf⟩ := HC3.out) | (obtain ⟨hgc, hgf⟩ := HC2.out)
        go_simp
        refine hK.out _ _ (by first | exact HB2.out | exact HB.out) ?_
        clear hK K hgc hgf
        try simp only [Act.put, List.setIfInBounds_toArray, List.set_cons_zero, List.set_cons_succ]
        refine held_call (i := 8) (o := { dst := some 36, op := Op.call { callee := Callee.value (Operand.func 25), args := #[Operand.tmp 32, Operand.tmp 35], argTypes := #[3, 3] }, type := 3, pos := "law.go:139", after := #[{ on := 4, ground := Ground.data }, { on := 7, ground := Ground.data }], guard := none }) rfl (by kernel_rfl) (by rfl) (fun K hK => ?_)
        go_simp
        refine (pick_any u ((p.length : Int) + 1) (by omega) (by omega) _).mono ?_
        rintro e _ ⟨rfl, rfl⟩
        rw [HX.out]
        refine hK.out _ _ HB.out ?_
        clear hK K
        try simp only [Act.put, List.setIfInBounds_toArray, List.set_cons_zero, List.set_cons_succ]
        refine held_call (i := 9) (o := { dst := some 37, op := Op.buildSlice 22 1 #[(0, Operand.tmp 36)], type := 22, pos := "law.go:139", after := #[{ on := 8, ground := Ground.data }], guard := none }) rfl (by kernel_rfl) (by rfl) (fun K hK => ?_)
        go_simp
        have hn := new_below wd (.cells #[.int .i64 (x : Int)] 3)
        have HB2 := Lib.hid (HB.out.then (Kept.ofBelow hn))
        have HC3 := Lib.hid (HC2.out.kept (S := fun _ => False) (Kept.ofBelow hn) id)
        refine hK.out _ _ HB2.out ?_
        clear hK K hn
        try simp only [Act.put, List.setIfInBounds_toArray, List.set_cons_zero, List.set_cons_succ]
        refine held_call (i := 10) (o := { dst := some 38, op := Op.call { callee := Callee.builtin Builtin.append, args := #[Operand.tmp 28, Operand.tmp 37], argTypes := #[22, 22] }, type := 22, pos := "law.go:139", after := #[{ on := 0, ground := Ground.data }, { on := 9, ground := Ground.data }, { on := 8, ground := Ground.chain }], guard := none }) rfl (by kernel_rfl) (by rfl) (fun K hK => ?_)
        refine step_owni_lies _ _ rfl (gp + 2) _ q rfl HQ2.out (x : Int) rfl (by omega) ?_
        intro g cap w3 hv3 hk3 hl3
        have HV3 := Lib.hid hv3
        have HK3 := Lib.hid hk3
        have HC4 := Lib.hid (HC2.out.kept hk3 (fun e => by have := OwnI.base HQ2.out e; omega))
        have HB3 := Lib.hid (HB.out.then (hk3.mono fun i _ e => by have := OwnI.base HQ2.out e; omega))
        refine hK.out _ _ HB3.out ?_
        clear hK K hv3 hl3 hk3 HB2 HC3
        try simp only [Act.put, List.setIfInBounds_toArray, List.set_cons_zero, List.set_cons_succ]
        refine held_call (i := 11) (o := { dst := none, op := Op.store 22 (Operand.tmp 7) (Operand.tmp 38), type := 0, pos := "law.go:139", after := #[{ on := 10, ground := Ground.data }, { on := 10, ground := Ground.chain }, { on := 0, ground := Ground.phase }, { on := 1, ground := Ground.phase }, { on := 2, ground := Ground.phase }, { on := 3, ground := Ground.phase }, { on := 4, ground := Ground.phase }, { on := 5, ground := Ground.phase }, { on := 6, ground := Ground.phase }, { on := 7, ground := Ground.phase }, { on := 8, ground := Ground.phase }, { on := 9, ground := Ground.phase }, { on := 10, ground := Ground.phase }], guard := none }) rfl (by kernel_rfl) (by rfl) (fun K hK => ?_)
        obtain ⟨hgc, hgf⟩ := HC4.out
        go_simp
        refine hK.out _ _ (HB3.out.then (Kept.setCell (S := fun i => gp + 1 ≤ i) _ _ (Nat.le_refl _) _)) ?_
        clear hK K hgc hgf
        try simp only [Act.put]
        refine wpAnyH_done (by kernel_rfl) ?_ _
        have hset := Kept.setCell (S := (· = gp + 1)) w3 ⟨gp + 1, 0, none⟩ rfl (.slice (some ⟨g, 0, none⟩) (q.length + 1) cap)
        have HC5 := Lib.hid (HC4.out.set (.slice (some ⟨g, 0, none⟩) (q.length + 1) cap))
        have HV5 := Lib.hid (OwnW.kept HV3.out hset (fun i hi e => by have := OwnI.base HV3.out hi; omega))
        have HR5 := Lib.hid (OwnW.kept (OwnW.kept HR2.out HK3.out (fun i hi e => HNE.out i hi e)) hset (fun i hi e => by have := OwnI.base HR2.out hi; omega))
        have HK5 := Lib.hid (HK.out.then (HB3.out.then (hset.mono fun i _ e => by omega)))
        generalize w3.setCell ⟨gp + 1, 0, none⟩ (.slice (some ⟨g, 0, none⟩) (q.length + 1) cap) = w4 at HC5 HV5 HR5 HK5 ⊢
        have hck := snoc_cell HV5.out
        rw [HQL.out] at hck HC5 HV5
        obtain ⟨hgc5, hgf5⟩ := HC5.out
        clear hset HC4 HV3 HK3 HB3 HR2 HQ2 HC2 HB hgf5
        go_wp2_with (first | (at_builtin; refine wpList_ownis rfl _ _ rfl w4.heap.size (gp + 2) _ _ [(x : Int)] q.reverse rfl (owni_new w4 (Nat.le_refl _) (x : Int)) rfl (OwnI.later HR5.out (new_below _ _)) (by rw [List.length_reverse]; simp; omega) ?_; intro v6 w6 hv6 hk6; have HV6 := Lib.hid hv6; have HK6 := Lib.hid hk6; clear hv6 hk6))
        exact ⟨places_next HQL.out HQR.out hxl HV5.out HC5.out HV6.out HK6.out HK5.out (by omega), by simp [intOf]; omega⟩
      · skip
        go_simp
        refine (pick_any u ((p.length : Int) + 1) (by omega) (by omega) _).mono ?_
        rintro e _ ⟨rfl, rfl⟩
        rw [HX.out]
        refine hK.out _ _ HB.out ?_
        clear hK K
        try simp only [Act.put, List.setIfInBounds_toArray, List.set_cons_zero, List.set_cons_succ]
        refine held_two (i := 0) (j := 9) (o := { dst := some 28, op := Op.load 22 (Operand.tmp 7), type := 22, pos := "law.go:139", after := #[], guard := none }) (p := { dst := some 37, op := Op.buildSlice 22 1 #[(0, Operand.tmp 36)], type := 22, pos := "law.go:139", after := #[{ on := 8, ground := Ground.data }], guard := none }) rfl rfl (by kernel_rfl) (by rfl) (by rfl) (fun K hK => ?_) (fun K hK => ?_)
        · skip
          first | (obtain ⟨hgc, hgf⟩ := HC3.out) | (obtain ⟨hgc, hgf⟩ := HC2.out)
          go_simp
          refine hK.out _ _ (by first | exact HB2.out | exact HB.out) ?_
          clear hK K hgc hgf
          try simp only [Act.put, List.setIfInBounds_toArray, List.set_cons_zero, List.set_cons_succ]
          refine held_call (i := 9) (o := { dst := some 37, op := Op.buildSlice 22 1 #[(0, Operand.tmp 36)], type := 22, pos := "law.go:139", after := #[{ on := 8, ground := Ground.data }], guard := none }) rfl (by kernel_rfl) (by rfl) (fun K hK => ?_)
          go_simp
          have hn := new_below wd (.cells #[.int .i64 (x : Int)] 3)
          have HB2 := Lib.hid (HB.out.then (Kept.ofBelow hn))
          have HC3 := Lib.hid (HC2.out.kept (S := fun _ => False) (Kept.ofBelow hn) id)
          refine hK.out _ _ HB2.out ?_
          clear hK K hn
          try simp only [Act.put, List.setIfInBounds_toArray, List.set_cons_zero, List.set_cons_succ]
          refine held_call (i := 10) (o := { dst := some 38, op := Op.call { callee := Callee.builtin Builtin.append, args := #[Operand.tmp 28, Operand.tmp 37], argTypes := #[22, 22] }, type := 22, pos := "law.go:139", after := #[{ on := 0, ground := Ground.data }, { on := 9, ground := Ground.data }, { on := 8, ground := Ground.chain }], guard := none }) rfl (by kernel_rfl) (by rfl) (fun K hK => ?_)
          refine step_owni_lies _ _ rfl (gp + 2) _ q rfl HQ2.out (x : Int) rfl (by omega) ?_
          intro g cap w3 hv3 hk3 hl3
          have HV3 := Lib.hid hv3
          have HK3 := Lib.hid hk3
          have HC4 := Lib.hid (HC2.out.kept hk3 (fun e => by have := OwnI.base HQ2.out e; omega))
          have HB3 := Lib.hid (HB.out.then (hk3.mono fun i _ e => by have := OwnI.base HQ2.out e; omega))
          refine hK.out _ _ HB3.out ?_
          clear hK K hv3 hl3 hk3 HB2 HC3
          try simp only [Act.put, List.setIfInBounds_toArray, List.set_cons_zero, List.set_cons_succ]
          refine held_call (i := 11) (o := { dst := none, op := Op.store 22 (Operand.tmp 7) (Operand.tmp 38), type := 0, pos := "law.go:139", after := #[{ on := 10, ground := Ground.data }, { on := 10, ground := Ground.chain }, { on := 0, ground := Ground.phase }, { on := 1, ground := Ground.phase }, { on := 2, ground := Ground.phase }, { on := 3, ground := Ground.phase }, { on := 4, ground := Ground.phase }, { on := 5, ground := Ground.phase }, { on := 6, ground := Ground.phase }, { on := 7, ground := Ground.phase }, { on := 8, ground := Ground.phase }, { on := 9, ground := Ground.phase }, { on := 10, ground := Ground.phase }], guard := none }) rfl (by kernel_rfl) (by rfl) (fun K hK => ?_)
          obtain ⟨hgc, hgf⟩ := HC4.out
          go_simp
          refine hK.out _ _ (HB3.out.then (Kept.setCell (S := fun i => gp + 1 ≤ i) _ _ (Nat.le_refl _) _)) ?_
          clear hK K hgc hgf
          try simp only [Act.put]
          refine wpAnyH_done (by kernel_rfl) ?_ _
          have hset := Kept.setCell (S := (· = gp + 1)) w3 ⟨gp + 1, 0, none⟩ rfl (.slice (some ⟨g, 0, none⟩) (q.length + 1) cap)
          have HC5 := Lib.hid (HC4.out.set (.slice (some ⟨g, 0, none⟩) (q.length + 1) cap))
          have HV5 := Lib.hid (OwnW.kept HV3.out hset (fun i hi e => by have := OwnI.base HV3.out hi; omega))
          have HR5 := Lib.hid (OwnW.kept (OwnW.kept HR2.out HK3.out (fun i hi e => HNE.out i hi e)) hset (fun i hi e => by have := OwnI.base HR2.out hi; omega))
          have HK5 := Lib.hid (HK.out.then (HB3.out.then (hset.mono fun i _ e => by omega)))
          generalize w3.setCell ⟨gp + 1, 0, none⟩ (.slice (some ⟨g, 0, none⟩) (q.length + 1) cap) = w4 at HC5 HV5 HR5 HK5 ⊢
          have hck := snoc_cell HV5.out
          rw [HQL.out] at hck HC5 HV5
          obtain ⟨hgc5, hgf5⟩ := HC5.out
          clear hset HC4 HV3 HK3 HB3 HR2 HQ2 HC2 HB hgf5
          go_wp2_with (first | (at_builtin; refine wpList_ownis rfl _ _ rfl w4.heap.size (gp + 2) _ _ [(x : Int)] q.reverse rfl (owni_new w4 (Nat.le_refl _) (x : Int)) rfl (OwnI.later HR5.out (new_below _ _)) (by rw [List.length_reverse]; simp; omega) ?_; intro v6 w6 hv6 hk6; have HV6 := Lib.hid hv6; have HK6 := Lib.hid hk6; clear hv6 hk6))
          exact ⟨places_next HQL.out HQR.out hxl HV5.out HC5.out HV6.out HK6.out HK5.out (by omega), by simp [intOf]; omega⟩
        · skip
          go_simp
          have hn := new_below wd (.cells #[.int .i64 (x : Int)] 3)
          have HB2 := Lib.hid (HB.out.then (Kept.ofBelow hn))
          have HC3 := Lib.hid (HC2.out.kept (S := fun _ => False) (Kept.ofBelow hn) id)
          refine hK.out _ _ HB2.out ?_
          clear hK K hn
          try simp only [Act.put, List.setIfInBounds_toArray, List.set_cons_zero, List.set_cons_succ]
          refine held_call (i := 0) (o := { dst := some 28, op := Op.load 22 (Operand.tmp 7), type := 22, pos := "law.go:139", after := #[], guard := none }) rfl (by kernel_rfl) (by rfl) (fun K hK => ?_)
          first | (obtain ⟨hgc, hgf⟩ := HC3.out) | (obtain ⟨hgc, hgf⟩ := HC2.out)
          go_simp
          refine hK.out _ _ (by first | exact HB2.out | exact HB.out) ?_
          clear hK K hgc hgf
          try simp only [Act.put, List.setIfInBounds_toArray, List.set_cons_zero, List.set_cons_succ]
          refine held_call (i := 10) (o := { dst := some 38, op := Op.call { callee := Callee.builtin Builtin.append, args := #[Operand.tmp 28, Operand.tmp 37], argTypes := #[22, 22] }, type := 22, pos := "law.go:139", after := #[{ on := 0, ground := Ground.data }, { on := 9, ground := Ground.data }, { on := 8, ground := Ground.chain }], guard := none }) rfl (by kernel_rfl) (by rfl) (fun K hK => ?_)
          refine step_owni_lies _ _ rfl (gp + 2) _ q rfl HQ2.out (x : Int) rfl (by omega) ?_
          intro g cap w3 hv3 hk3 hl3
          have HV3 := Lib.hid hv3
          have HK3 := Lib.hid hk3
          have HC4 := Lib.hid (HC2.out.kept hk3 (fun e => by have := OwnI.base HQ2.out e; omega))
          have HB3 := Lib.hid (HB.out.then (hk3.mono fun i _ e => by have := OwnI.base HQ2.out e; omega))
          refine hK.out _ _ HB3.out ?_
          clear hK K hv3 hl3 hk3 HB2 HC3
          try simp only [Act.put, List.setIfInBounds_toArray, List.set_cons_zero, List.set_cons_succ]
          refine held_call (i := 11) (o := { dst := none, op := Op.store 22 (Operand.tmp 7) (Operand.tmp 38), type := 0, pos := "law.go:139", after := #[{ on := 10, ground := Ground.data }, { on := 10, ground := Ground.chain }, { on := 0, ground := Ground.phase }, { on := 1, ground := Ground.phase }, { on := 2, ground := Ground.phase }, { on := 3, ground := Ground.phase }, { on := 4, ground := Ground.phase }, { on := 5, ground := Ground.phase }, { on := 6, ground := Ground.phase }, { on := 7, ground := Ground.phase }, { on := 8, ground := Ground.phase }, { on := 9, ground := Ground.phase }, { on := 10, ground := Ground.phase }], guard := none }) rfl (by kernel_rfl) (by rfl) (fun K hK => ?_)
          obtain ⟨hgc, hgf⟩ := HC4.out
          go_simp
          refine hK.out _ _ (HB3.out.then (Kept.setCell (S := fun i => gp + 1 ≤ i) _ _ (Nat.le_refl _) _)) ?_
          clear hK K hgc hgf
          try simp only [Act.put]
          refine wpAnyH_done (by kernel_rfl) ?_ _
          have hset := Kept.setCell (S := (· = gp + 1)) w3 ⟨gp + 1, 0, none⟩ rfl (.slice (some ⟨g, 0, none⟩) (q.length + 1) cap)
          have HC5 := Lib.hid (HC4.out.set (.slice (some ⟨g, 0, none⟩) (q.length + 1) cap))
          have HV5 := Lib.hid (OwnW.kept HV3.out hset (fun i hi e => by have := OwnI.base HV3.out hi; omega))
          have HR5 := Lib.hid (OwnW.kept (OwnW.kept HR2.out HK3.out (fun i hi e => HNE.out i hi e)) hset (fun i hi e => by have := OwnI.base HR2.out hi; omega))
          have HK5 := Lib.hid (HK.out.then (HB3.out.then (hset.mono fun i _ e => by omega)))
          generalize w3.setCell ⟨gp + 1, 0, none⟩ (.slice (some ⟨g, 0, none⟩) (q.length + 1) cap) = w4 at HC5 HV5 HR5 HK5 ⊢
          have hck := snoc_cell HV5.out
          rw [HQL.out] at hck HC5 HV5
          obtain ⟨hgc5, hgf5⟩ := HC5.out
          clear hset HC4 HV3 HK3 HB3 HR2 HQ2 HC2 HB hgf5
          go_wp2_with (first | (at_builtin; refine wpList_ownis rfl _ _ rfl w4.heap.size (gp + 2) _ _ [(x : Int)] q.reverse rfl (owni_new w4 (Nat.le_refl _) (x : Int)) rfl (OwnI.later HR5.out (new_below _ _)) (by rw [List.length_reverse]; simp; omega) ?_; intro v6 w6 hv6 hk6; have HV6 := Lib.hid hv6; have HK6 := Lib.hid hk6; clear hv6 hk6))
          exact ⟨places_next HQL.out HQR.out hxl HV5.out HC5.out HV6.out HK6.out HK5.out (by omega), by simp [intOf]; omega⟩
    · have hpr := ((HP.out.later HBW2.out).keep HK.out fun ad e h => by have := (HPA.out ad e h).2; have := HGP.out; omega)
      obtain ⟨Aq', cq', e1, -, hqri, -⟩ := OwnI.reads HQ.out
      cases e1
      have hcp := kept_load HK.out (p := ⟨gp, 0, none⟩) (by dsimp only; omega) HPC.out
      have hcq := HC.out.1
      have HPR := Lib.hid hpr
      have HQI := Lib.hid hqri
      have HCP := Lib.hid hcp
      have HCQ := Lib.hid hcq
      have HPV := Lib.hid (Tr.place_rev p q)
      have hq8 : q.length ≤ 8 := by omega
      have HEND := Lib.hid (HBW.out.trans ((HBW2.out.trans (HK.out.below (by have := HBW2.out.size; omega) fun i hi e => by have e2 : gp + 1 ≤ i := e; have := HGP.out; omega) : Below W.heap.size W wr).mono HBW.out.size))
      have HL0 := Lib.hid hlt
      have HQL := Lib.hid hql
      clear hql hpr hqri hcp hcq HQ HC HRv HNE HM2 HMB HK hlt HPC
      have k1 : Hid (∀ x : Later wr, x.at_.cell? ⟨gp, 0, none⟩ = some (.slice Ap p.length cp)) := Lib.hid fun x => later_cell HCP.out x
      have k2 : Hid (∀ x : Later wr, x.at_.cell? ⟨gp + 1, 0, none⟩ = some (.slice Aq q.length cq)) := Lib.hid fun x => later_cell HCQ.out x
      have hcp := HCP.out
      have hcq := HCQ.out
      by_cases h0 : q.length = 0
      · have HPE := Lib.hid (show Tr.place p q = -1 by unfold Tr.place; rw [if_neg (by rw [List.eq_nil_of_length_eq_zero h0]; simp)])
        have h0i : ((q.length : Int) == 0) = true := by rw [beq_iff_eq]; omega
        have HLE := Lib.hid h0
        clear h0
        rcases (by have := HL0.out; omega : ¬ k < n1 ∨ (k < n1 ∧ ¬ k < 8)) with h2 | ⟨h2, h3⟩
        all_goals
          go_wp2_with fail
          refine (place_any HPR.out HQI.out (by omega) (by omega)).mono ?_
          rintro e w' ⟨rfl, rfl⟩
          rw [HPE.out]
          go_wp2_with fail
          refine (known_any _).mono ?_
          rintro e w3 ⟨rfl, hk3⟩
          have HB3 := Lib.hid hk3
          have hcp3 := load_later hk3 HCP.out
          have hcq3 := load_later hk3 HCQ.out
          clear hk3 hcp hcq
          go_wp2_with (first | (go_at_call 12; refine (place_any (HPR.out.later HB3.out) (HRR.out.later HB3.out) (by omega) (by omega)).mono ?_; rintro e w' ⟨rfl, rfl⟩; rw [HPV.out, HPE.out]))
          refine (known_any _).mono ?_
          rintro e w4 ⟨rfl, hk4⟩
          have HB4 := Lib.hid (then_below HB3.out hk4)
          have hcq4 := load_later hk4 hcq3
          clear hk4 hcp3 hcq3
          go_wp2_with fail
          go_ret
          exact ⟨by simp, then_below HEND.out HB4.out⟩
      · have hne : q ≠ [] := fun e => h0 (by rw [e]; rfl)
        have hh : Tr.has p q = true := Tr.has_iff.2 ⟨HR.out, HQR.out⟩
        have hle := Tr.least_le (fun b => Tr.far p b q) p.length
        have hpe : Tr.place p q = (Tr.least (fun b => Tr.far p b q) p.length : Int) := by unfold Tr.place; rw [if_pos ⟨hh, hne⟩]
        generalize Tr.least (fun b => Tr.far p b q) p.length = t at hle hpe
        have HPE := Lib.hid hpe
        have HH := Lib.hid hh
        have ht := hle.1
        have HLE := Lib.hid hle.2
        have h0i : ((q.length : Int) == 0) = false := by rw [beq_eq_false_iff_ne]; omega
        have ht0 : decide ((t : Int) < 0) = false := decide_eq_false (by omega)
        have ht1 : decide ((p.length : Int) < (t : Int)) = false := decide_eq_false (by omega)
        have ht2 : decide (p.length < t) = false := decide_eq_false (by omega)
        clear hne hh hle hpe h0
        rcases (by have := HL0.out; omega : ¬ k < n1 ∨ (k < n1 ∧ ¬ k < 8)) with h2 | ⟨h2, h3⟩
        all_goals
          go_wp2_with fail
          refine (place_any HPR.out HQI.out (by omega) (by omega)).mono ?_
          rintro e w' ⟨rfl, rfl⟩
          rw [HPE.out]
          go_wp2_with fail
          refine (known_any _).mono ?_
          rintro e w3 ⟨rfl, hk3⟩
          have HB3 := Lib.hid hk3
          have hcp3 := load_later hk3 HCP.out
          have hcq3 := load_later hk3 HCQ.out
          clear hk3 hcp hcq
          go_wp2_with (first | (go_at_call 12; refine (place_any (HPR.out.later HB3.out) (HRR.out.later HB3.out) (by omega) (by omega)).mono ?_; rintro e w' ⟨rfl, rfl⟩; rw [HPV.out, HPE.out]))
          go_loopw [12] (fun ii wy => ∃ x : Nat, x ≤ p.length + 1 ∧ ii = .int .i64 (x : Int) ∧ Below wr.heap.size wr wy) (fun ii _ => p.length + 1 - (intOf ii).toNat)
          case atStart => exact ⟨0, by omega, rfl, HB3.out⟩
          case round =>
            clear HB3 hcp3 hcq3
            obtain ⟨x, hx, rfl, hB⟩ := hrel
            have HB := Lib.hid hB
            have d1 := load_later hB HCP.out
            have d2 := load_later hB HCQ.out
            clear hB
            by_cases hxl : x ≤ p.length
            · have hf := HLE.out.1 x hxl
              have hg := HLE.out.2 x
              have hxt : (Tr.far p t q : Int) ≤ (Tr.far p x q : Int) := by omega
              have hf1 : decide ((Tr.far p x q : Int) < (Tr.far p t q : Int)) = false := decide_eq_false (by omega)
              have hf2 : decide (Tr.far p x q < Tr.far p t q) = false := decide_eq_false (by omega)
              by_cases hlt : x < t
              · have hg2 := hg hlt
                have he1 : ((Tr.far p x q : Int) == (Tr.far p t q : Int)) = false := by rw [beq_eq_false_iff_ne]; omega
                have hx1 : decide ((x : Int) < (t : Int)) = true := decide_eq_true (by omega)
                have hx2 : decide (x < t) = true := decide_eq_true hlt
                clear hf hg hg2 hxt
                go_wp2_with (first | (go_at_call 28; refine (psum_any HPR.out HQI.out HCP.out HCQ.out HH.out (by omega) HB.out _ (by omega)).mono ?_; rintro e w7 ⟨rfl, hl7⟩; have HB7 := Lib.hid hl7; clear hl7 HB; have HB := HB7; clear HB7))
                exact ⟨⟨x + 1, by omega, by simp, HB.out⟩, by simp [intOf]; omega⟩
              · have hx1 : decide ((x : Int) < (t : Int)) = false := decide_eq_false (by omega)
                have hx2 : decide (x < t) = false := decide_eq_false hlt
                clear hf hg hxt
                go_wp2_with (first | (go_at_call 28; refine (psum_any HPR.out HQI.out HCP.out HCQ.out HH.out (by omega) HB.out _ (by omega)).mono ?_; rintro e w7 ⟨rfl, hl7⟩; have HB7 := Lib.hid hl7; clear hl7 HB; have HB := HB7; clear HB7))
                exact ⟨⟨x + 1, by omega, by simp, HB.out⟩, by simp [intOf]; omega⟩
            · go_wp2_with fail
              go_ret
              exact ⟨rfl, then_below HEND.out HB.out⟩
end Go.Proofs.Ytmibjmceghikdaa
