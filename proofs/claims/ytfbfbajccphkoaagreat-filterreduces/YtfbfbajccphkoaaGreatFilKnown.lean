
/- FilterKnown: the walk. -/
import Derived.Test.YtfbfbajccphkoaaGreatFilTests
import Derived.Test.YtfbfbajccphkoaaGreatBase
import Derived.ArgAppend
namespace Go.Proofs.YtfbfbajccphkoaaGreat
open Go.RowKit
set_option linter.unusedVariables false

namespace Pd
abbrev hasT : Prd := ⟨⟨#[98]⟩, 1, ⟨0, 0, 0, ⟨#[]⟩, false⟩, ⟨0, 0, 0, ⟨#[]⟩, false⟩, []⟩
abbrev voidP : Prd := ⟨⟨#[97]⟩, 8, ⟨1, 2, 0, ⟨#[]⟩, false⟩, ⟨1, 1, 0, ⟨#[]⟩, false⟩, []⟩
abbrev lessT : Prd := ⟨⟨#[97]⟩, 4, ⟨1, 4, 0, ⟨#[]⟩, false⟩, ⟨0, 0, 0, ⟨#[]⟩, false⟩, []⟩
theorem fits_closed {p : Prd} (h : (decide (p.name.size ≤ 12) && decide (-100 ≤ p.v.n) && decide (p.v.n ≤ 100) && decide (p.v.s.size ≤ 12) && decide (-100 ≤ p.w.n) && decide (p.w.n ≤ 100) && decide (p.w.s.size ≤ 12) && p.set.isEmpty) = true) : Fits p := by
  simp only [Bool.and_eq_true, decide_eq_true_eq, List.isEmpty_iff] at h
  obtain ⟨⟨⟨⟨⟨⟨⟨h1, h2⟩, h3⟩, h4⟩, h5⟩, h6⟩, h7⟩, h8⟩ := h
  exact ⟨by omega, ⟨by omega, by omega, by omega⟩, ⟨by omega, by omega, by omega⟩, by rw [h8]; simp⟩
theorem two_fits : ∀ t, t ∈ [[moreT ⟨#[97]⟩ 3], [hasT]] → ∀ p, p ∈ t → Fits p := by
  intro t ht p hp
  simp only [List.mem_cons, List.not_mem_nil, or_false] at ht
  rcases ht with rfl | rfl <;> (rw [List.mem_singleton.1 hp]; exact fits_closed (by decide +kernel))
end Pd
theorem att_fit (n : Int) (h1 : -9223372036854775808 ≤ n) (h2 : n ≤ 9223372036854775807) : ∀ x, x ∈ [(⟨⟨#[97]⟩, ⟨1, n, 0, ⟨#[]⟩, false⟩⟩ : Att)] → Fit x.v := by
  intro x hx
  rw [List.mem_singleton.1 hx]
  exact ⟨h1, h2, by show (0 : Nat) ≤ 9223372036854775807; omega⟩
/-- A guarded 'append' whose run is known. -/
theorem wpList_append_ran {ops : Array Oper} {rest : List Oper} {w : World} {o : Oper} {a : Act} {Q : Exit → Act → World → Prop} (hw : Region.wanted o (yielded ops a.tmps) = true) (s x : Operand) (t : TypeId)
    (ho : o.op = .call { callee := .builtin .append, args := #[s, x], argTypes := #[t, t] }) (vs vx : Value) (hs : a.eval s = vs) (hx : a.eval x = vx) {v : Value} {w' : World} (hr : (Builtin.append_ #[t, t] o.type #[vs, vx]).run Tryz.prog w = .ok v w')
    (h : wpList Tryz.prog ops Q rest (a.put o.dst v) w') : wpList Tryz.prog ops Q (o :: rest) a w :=
  BigFrame.wpList_want hw fun K hK => by
    unfold Oper.wp execOp
    simp only [ho, resolve, invoke, builtin, Sem.run_bind, Sem.run_pure, Result.andThen_ok, List.map_toArray, List.map_cons, List.map_nil, hs, hx, hr]
    exact hK _ _ h
theorem new_fts (w : World) (L : List Ft) : Rs 1 (w.alloc (.cells (fflat L).toArray 22)) (some ⟨w.heap.size, 0, none⟩) L.length (fflat L) := by
  refine ⟨by rw [fflat_len, Nat.mul_one], .inr ⟨w.heap.size, 0, rfl, fun j u hj => ?_⟩⟩
  rw [World.cell?_alloc_new, Nat.zero_add]
  simpa using hj
/-- 'append(f, g...)' where f has no room: new memory. -/
theorem append_is {w : World} {f g : Ft} {l m : List Prd} {a b : Addr} (hf : Is w f l) (hg : Is w g m) (ha : f.A = some a) (hb : g.A = some b) (hc : f.c < f.l.length + g.l.length) (hlen : f.l.length + g.l.length ≤ 1000) :
    ∃ (h : Ft) (w' : World), (Builtin.append_ #[22, 22] 22 #[.slice f.A f.l.length f.c, .slice g.A g.l.length g.c]).run Tryz.prog w = .ok (.slice h.A h.l.length h.c) w' ∧ Is w' h (l ++ m) ∧ Below w.heap.size w w' := by
  obtain ⟨i, hi, hz, h1, h2⟩ := info_at prd_info
  have cells : ∀ (x : Ft) (l : List Prd) (a : Addr), Is w x l → x.A = some a → ∀ j u, (pflat x.l)[j]? = some u → w.cell? (a.add j) = some u := by
    intro x l a hx hxa j u hj
    rcases hx.is.ps.row.2 with h0 | ⟨g, o, e, hc⟩
    · rw [h0] at hj; simp at hj
    · rw [hxa] at e
      cases e
      rw [addr_at]
      exact hc j u hj
  obtain ⟨v', w', hr, ho, hgr⟩ := run_append_arg_grows (P := Tryz.prog) w 22 22 48 i _ 13 144 Tryz.underlying22 hi hz h1 h2 rfl (by decide) a f.l.length f.c (pflat f.l) (flat_len _ Pt.cells_len _) (cells f l a hf ha) b g.l.length g.c (pflat g.l) (flat_len _ Pt.cells_len _) (cells g m b hg hb) hc (by unfold maxLen; omega) (by omega)
  have hbel : Below w.heap.size w w' := ⟨hgr.os, hgr.tape, hgr.output, hgr.size, fun k hk => hgr.block k hk (by intro e; cases e)⟩
  have ho' : OwnP w.heap.size w' v' (f.l ++ g.l) := ownp_add (l := f.l) (m := g.l) ⟨ho, hbel.size⟩
  obtain ⟨A, c, rfl, -, -, hrs, -, -, h0⟩ := ho'.reads
  refine ⟨⟨A, c, f.l ++ g.l⟩, w', ?_, ⟨⟨⟨hrs, fun x hx => ?_, by simp; omega⟩, h0⟩, ?_⟩, hbel⟩
  · rw [ha, hb, hr]
  · rcases List.mem_append.1 hx with hx | hx
    · exact (hf.is.ps.each x hx).later hbel
    · exact (hg.is.ps.each x hx).later hbel
  · rw [← hf.ts, ← hg.ts]
    simp [Fi.tests]
theorem two_of {M : List Ft} {a b : List Prd} (h : M.map Fi.tests = [a, b]) : ∃ m1 m2, M = [m1, m2] ∧ Fi.tests m1 = a ∧ Fi.tests m2 = b := by
  match M, h with
  | [m1, m2], h => simp only [List.map_cons, List.map_nil, List.cons.injEq, and_true] at h; exact ⟨m1, m2, rfl, h.1, h.2⟩
theorem Owned.push {B : Nat} {w w' : World} {f : Ft} {x : Pt} {v' : Value} (h : Owned B w f) (hx : OwnS B w x) (hO : OwnW 13 B 48 w' v' (f.l.length + 1) (pflat f.l ++ pflat [x])) (hK : Kept (fun i => (Value.slice f.A f.l.length f.c).ownBlock = some i) w w') :
    ∃ t : Ft, v' = .slice t.A t.l.length t.c ∧ Fi.tests t = Fi.tests f ++ [x.p] ∧ Owned B w' t := by
  have ho : OwnP B w' v' (f.l ++ [x]) := ownp_add (l := f.l) (m := [x]) hO
  obtain ⟨A, c, rfl, -⟩ := ho.reads
  refine ⟨⟨A, c, f.l ++ [x]⟩, rfl, by simp [Fi.tests], ho, fun y hy => ?_⟩
  have hy' : OwnS B w y := by
    rcases List.mem_append.1 hy with hy | hy
    · exact h.sets y hy
    · rw [List.mem_singleton.1 hy]; exact hx
  exact hy'.kept hK (fun i hi e => ownw_types hy' h.row val_pred i hi e)
theorem Owned.some {B : Nat} {w : World} {f : Ft} (h : Owned B w f) (hl : 0 < f.l.length) : ∃ a, f.A = some a := by
  obtain ⟨g, c, e, -⟩ := ownp_at h.row hl
  unfold Ft.v at e
  cases hA : f.A with
  | none => rw [hA] at e; cases e
  | some a => exact ⟨a, rfl⟩
/-- What the row that Reduce told holds, beside b. -/
structure Kn3 (w wx : World) (m1 m2 b : Ft) (g o : Nat) : Prop where
  i1 : Is wx m1 [Pd.moreT ⟨#[97]⟩ 3]
  i2 : Is wx m2 [Pd.hasT]
  ib : Is wx b [Pd.hasT]
  c1 : wx.cell? ⟨g, o, none⟩ = some (.slice m1.A m1.l.length m1.c)
  c2 : wx.cell? ⟨g, o + 1, none⟩ = some (.slice m2.A m2.l.length m2.c)
  below : Below w.heap.size w wx
theorem Kn3.later {w wx wy : World} {m1 m2 b : Ft} {g o : Nat} (h : Kn3 w wx m1 m2 b g o) (k : Below wx.heap.size wx wy) : Kn3 w wy m1 m2 b g o :=
  ⟨h.i1.later k, h.i2.later k, h.ib.later k, (k.cell (cell_lt h.c1)).trans h.c1, (k.cell (cell_lt h.c2)).trans h.c2, below_then h.below k⟩
/-- What the last statement stands on. -/
structure Kn7 (w wx : World) (b v t : Ft) : Prop where
  ib : Is wx b [Pd.hasT]
  iv : Is wx v [Pd.voidP]
  it : Is wx t [Pd.moreT ⟨#[97]⟩ 1, Pd.lessT]
  below : Below w.heap.size w wx
theorem Kn7.later {w wx wy : World} {b v t : Ft} (h : Kn7 w wx b v t) (k : Below wx.heap.size wx wy) : Kn7 w wy b v t :=
  ⟨h.ib.later k, h.iv.later k, h.it.later k, below_then h.below k⟩
theorem small_of {w : World} {f : Ft} {ts : List Prd} (h : Is w f ts) (hl : ts.length ≤ 1000) (hs : ∀ p, p ∈ ts → p.set = []) : f.l.length ≤ 1000 ∧ ∀ x, x ∈ f.l → x.p.set.length ≤ 2932031007317 := by
  refine ⟨by rw [h.len]; exact hl, fun x hx => ?_⟩
  rw [hs x.p (by rw [← h.ts]; exact List.mem_map_of_mem hx)]
  simp

set_option pp.deepTerms true in
set_option pp.maxSteps 10000000 in
set_option maxRecDepth 100000 in
set_option maxHeartbeats 16000000 in
theorem fknown_any (w : World) : Calls Tryz.prog 43 #[] w fun e w' => e = .returned (.bool true) ∧ Below w.heap.size w w' := by
  have hst := store_float
  have d97 : (⟨#[97]⟩ : ByteArray).size ≤ 9223372036854775807 := by decide
  go_enter Tryz.func43, Tryz.ntmps43
  go_upto_region 2 with fail
  have ho : Owned w.heap.size (w.alloc (Pt.box ⟨Pd.hasT, none, 0⟩)) ⟨some ⟨w.heap.size, 0, none⟩, 1, [⟨Pd.hasT, none, 0⟩]⟩ := one_owned w _ (fun B hB => OwnW.nil _ _ _ (by rw [World.size_alloc]; omega))
  have hib : Is (w.alloc (Pt.box ⟨Pd.hasT, none, 0⟩)) ⟨some ⟨w.heap.size, 0, none⟩, 1, [⟨Pd.hasT, none, 0⟩]⟩ [Pd.hasT] := ⟨ho.is (fun p hp => by rw [List.mem_singleton.1 hp]; exact Pd.fits_closed (by decide +kernel)), rfl⟩
  have HIB := Lib.hid hib
  have HB := Lib.hid (one_new w (Pt.box ⟨Pd.hasT, none, 0⟩))
  clear ho hib
  dsimp only [Pt.box, Pt.cells, List.length_nil] at HIB HB
  generalize w.alloc _ = w1 at HIB HB ⊢
  obtain ⟨b, hb⟩ : ∃ b : Ft, b = ⟨some ⟨w.heap.size, 0, none⟩, 1, [⟨Pd.hasT, none, 0⟩]⟩ := ⟨_, rfl⟩
  have hbA : b.A = some ⟨w.heap.size, 0, none⟩ := by rw [hb]
  have hbc : b.c = 1 := by rw [hb]
  have hbl : b.l.length = 1 := by rw [hb]; rfl
  rw [← hb] at HIB
  rw [show Value.slice (some ⟨w.heap.size, 0, none⟩) 1 1 = .slice b.A b.l.length b.c by rw [hb]; rfl]
  have HBA := Lib.hid hbA
  have HBC := Lib.hid hbc
  have HBL := Lib.hid hbl
  clear hb hbA hbc hbl
  go_wp2_with fail
  refine (more_any ⟨#[97]⟩ 5 d97 (by decide) (by decide) _).mono ?_
  rintro e w2 ⟨f5, rfl, i5, -, hb⟩
  have HI5 := Lib.hid i5
  replace HIB := Lib.hid (HIB.out.later hb)
  replace HB := Lib.hid (below_then HB.out hb)
  clear i5 hb
  go_wp2_with fail
  refine (more_any ⟨#[97]⟩ 3 d97 (by decide) (by decide) _).mono ?_
  rintro e w3 ⟨f3, rfl, i3, -, hb⟩
  have HI3 := Lib.hid i3
  replace HI5 := Lib.hid (HI5.out.later hb)
  replace HIB := Lib.hid (HIB.out.later hb)
  replace HB := Lib.hid (below_then HB.out hb)
  clear i3 hb
  go_wp2_with fail
  refine (more_any ⟨#[97]⟩ 4 d97 (by decide) (by decide) _).mono ?_
  rintro e w4 ⟨f4, rfl, i4, -, hb⟩
  have hn := one_new w4 (.cells (fflat [f5, f3, b, f4]).toArray 22)
  have h5 := (HI5.out.later hb).later hn
  have h3 := (HI3.out.later hb).later hn
  have h4 := i4.later hn
  have hB := (HIB.out.later hb).later hn
  have HFS : Hid (Fs (w4.alloc (.cells (fflat [f5, f3, b, f4]).toArray 22)) (some ⟨w4.heap.size, 0, none⟩) 4 [f5, f3, b, f4]) := ⟨new_fts w4 [f5, f3, b, f4], by
    intro f hf
    simp only [List.mem_cons, List.not_mem_nil, or_false] at hf
    rcases hf with rfl | rfl | rfl | rfl
    · exact h5.is
    · exact h3.is
    · exact hB.is
    · exact h4.is, by omega⟩
  have HTS : Hid ([f5, f3, b, f4].map Fi.tests = [[Pd.moreT ⟨#[97]⟩ 5], [Pd.moreT ⟨#[97]⟩ 3], [Pd.hasT], [Pd.moreT ⟨#[97]⟩ 4]]) := by
    show [f5, f3, b, f4].map Fi.tests = _
    rw [List.map_cons, List.map_cons, List.map_cons, List.map_cons, h5.ts, h3.ts, hB.ts, h4.ts]
    rfl
  have HSM : Hid (∀ f, f ∈ [f5, f3, b, f4] → f.l.length ≤ 1000 ∧ ∀ x, x ∈ f.l → x.p.set.length ≤ 2932031007317) := by
    intro f hf
    simp only [List.mem_cons, List.not_mem_nil, or_false] at hf
    rcases hf with rfl | rfl | rfl | rfl
    · exact small_of h5 (by decide) (by intro p hp; rw [List.mem_singleton.1 hp])
    · exact small_of h3 (by decide) (by intro p hp; rw [List.mem_singleton.1 hp])
    · exact small_of hB (by decide) (by intro p hp; rw [List.mem_singleton.1 hp])
    · exact small_of h4 (by decide) (by intro p hp; rw [List.mem_singleton.1 hp])
  replace HIB := Lib.hid hB
  replace HB := Lib.hid (below_then (below_then HB.out hb) hn)
  clear h5 h3 h4 hB hn hb i4 HI5 HI3
  go_wp2_with fail
  refine (reduce_is HFS.out HTS.out (by show 4 ≤ 900; omega) HSM.out (ts' := [[Pd.moreT ⟨#[97]⟩ 3], [Pd.hasT]]) (by kernel_rfl)).mono ?_
  rintro e w5 hpost
  obtain ⟨A, c, M, rfl, hM, hFS, -, -, hb⟩ := hpost.fs Pd.two_fits (by decide)
  obtain ⟨m1, m2, rfl, t1, t2⟩ := two_of hM
  obtain ⟨g, o, f, rfl, e1, -, c1⟩ := hFS.cells (Below.refl _ _) (k := 0) (by show 0 < 2; omega)
  obtain ⟨g', o', f', e', e2, -, c2⟩ := hFS.cells (Below.refl _ _) (k := 1) (by show 1 < 2; omega)
  cases e'
  obtain rfl : m1 = f := Option.some.inj e1
  obtain rfl : m2 = f' := Option.some.inj e2
  have HK3 : Hid (Kn3 w w5 m1 m2 b g o) := ⟨⟨hFS.each m1 (by simp), t1⟩, ⟨hFS.each m2 (by simp), t2⟩, HIB.out.later hb, c1, c2, below_then HB.out hb⟩
  clear hpost hM hFS t1 t2 c1 c2 hb HIB HB HFS HTS HSM
  go_upto_region 3 with fail
  have l1 := fun x : Later w5.drew => later_cell (W := w5.drew) HK3.out.c1 x
  clear e1 e2
  refine any_begin (by kernel_rfl) ?_
  refine any_read (i := 0) (o := { dst := some 14, op := Op.move (Operand.tmp 2), type := 28, pos := "law.go:20", after := #[], guard := none }) (v := ?_) rfl (by kernel_rfl) (by kernel_rfl) (by kernel_rfl) (fun _ _ _ h => h) (by rfl) ?_ ?_
  rotate_left
  · (intro x; go_simp; try with_reducible rfl)
  try simp only [Act.put, List.setIfInBounds_toArray, List.set_cons_zero, List.set_cons_succ]
  refine any_read (i := 1) (o := { dst := some 15, op := Op.call { callee := Callee.builtin Builtin.len, args := #[Operand.tmp 14], argTypes := #[28] }, type := 3, pos := "law.go:20", after := #[{ on := 0, ground := Ground.data }], guard := none }) (v := ?_) rfl (by kernel_rfl) (by kernel_rfl) (by kernel_rfl) (fun _ _ _ h => h) (by rfl) ?_ ?_
  rotate_left
  · (intro x; go_simp; try with_reducible rfl)
  try simp only [Act.put, List.setIfInBounds_toArray, List.set_cons_zero, List.set_cons_succ]
  refine any_read (i := 2) (o := { dst := some 16, op := Op.binOp BinOp.neq 3 (Operand.tmp 15) (Operand.const (Value.int IntKind.i64 2)) 3, type := 4, pos := "law.go:20", after := #[{ on := 1, ground := Ground.data }], guard := none }) (v := ?_) rfl (by kernel_rfl) (by kernel_rfl) (by kernel_rfl) (fun _ _ _ h => h) (by rfl) ?_ ?_
  rotate_left
  · (intro x; go_simp; try with_reducible rfl)
  try simp only [Act.put, List.setIfInBounds_toArray, List.set_cons_zero, List.set_cons_succ]
  refine any_read (i := 3) (o := { dst := some 17, op := Op.move (Operand.tmp 16), type := 4, pos := "law.go:20", after := #[{ on := 2, ground := Ground.data }], guard := none }) (v := ?_) rfl (by kernel_rfl) (by kernel_rfl) (by kernel_rfl) (fun _ _ _ h => h) (by rfl) ?_ ?_
  rotate_left
  · (intro x; go_simp; try with_reducible rfl)
  try simp only [Act.put, List.setIfInBounds_toArray, List.set_cons_zero, List.set_cons_succ]
  refine any_read (i := 4) (o := { dst := some 18, op := Op.move (Operand.tmp 2), type := 28, pos := "law.go:20", after := #[{ on := 3, ground := Ground.guard }], guard := some (3, false) }) (v := ?_) rfl (by kernel_rfl) (by kernel_rfl) (by kernel_rfl) (fun _ _ _ h => h) (by rfl) ?_ ?_
  rotate_left
  · (intro x; go_simp; try with_reducible rfl)
  try simp only [Act.put, List.setIfInBounds_toArray, List.set_cons_zero, List.set_cons_succ]
  refine any_read (i := 5) (o := { dst := some 19, op := Op.indexAddr 28 (Operand.tmp 18) (Operand.const (Value.int IntKind.i64 0)), type := 0, pos := "law.go:20", after := #[{ on := 4, ground := Ground.data }, { on := 3, ground := Ground.guard }], guard := some (3, false) }) (v := ?_) rfl (by kernel_rfl) (by kernel_rfl) (by kernel_rfl) (fun _ _ _ h => h) (by rfl) ?_ ?_
  rotate_left
  · (intro x; go_simp; try with_reducible rfl)
  try simp only [Act.put, List.setIfInBounds_toArray, List.set_cons_zero, List.set_cons_succ]
  refine any_read (i := 6) (o := { dst := some 20, op := Op.load 22 (Operand.tmp 19), type := 22, pos := "law.go:20", after := #[{ on := 5, ground := Ground.data }, { on := 3, ground := Ground.guard }], guard := some (3, false) }) (v := ?_) rfl (by kernel_rfl) (by kernel_rfl) (by kernel_rfl) (fun _ _ _ h => h) (by rfl) ?_ ?_
  rotate_left
  · (intro x; go_simp; try with_reducible rfl)
  try simp only [Act.put, List.setIfInBounds_toArray, List.set_cons_zero, List.set_cons_succ]
  refine any_call (i := 7) (o := { dst := some 21, op := Op.call { callee := Callee.value (Operand.func 70), args := #[Operand.const (Value.string { data := #[97] }), Operand.const (Value.int IntKind.i64 3)], argTypes := #[9, 2] }, type := 22, pos := "law.go:20", after := #[{ on := 3, ground := Ground.chain }, { on := 3, ground := Ground.guard }], guard := some (3, false) }) rfl (by kernel_rfl) (by rfl) (fun K hK => ?_)
  go_simp
  refine (more_any ⟨#[97]⟩ 3 d97 (by decide) (by decide) _).mono ?_
  rintro e w21 ⟨f21, rfl, i21, -, hb⟩
  refine hK.out _ _ hb ?_
  replace HK3 := Lib.hid (HK3.out.later (below_then (drew_below _) hb))
  have HI21 := Lib.hid i21
  clear hb i21 hK K l1
  try simp only [Act.put, List.setIfInBounds_toArray, List.set_cons_zero, List.set_cons_succ]
  refine any_call (i := 8) (o := { dst := some 22, op := Op.call { callee := Callee.value (Operand.func 13), args := #[Operand.tmp 20, Operand.tmp 21], argTypes := #[22, 22] }, type := 4, pos := "law.go:20", after := #[{ on := 6, ground := Ground.data }, { on := 7, ground := Ground.data }, { on := 7, ground := Ground.chain }, { on := 3, ground := Ground.guard }], guard := some (3, false) }) rfl (by kernel_rfl) (by rfl) (fun K hK => ?_)
  go_simp
  refine (same_is HK3.out.i1 HI21.out (b := true) (by decide +kernel)).mono ?_
  rintro e w22 ⟨rfl, hb⟩
  refine hK.out _ _ hb ?_
  replace HK3 := Lib.hid (HK3.out.later hb)
  have l2 := fun x : Later w22 => later_cell HK3.out.c2 x
  clear hb hK K
  try simp only [Act.put, List.setIfInBounds_toArray, List.set_cons_zero, List.set_cons_succ]
  refine any_read (i := 9) (o := { dst := some 23, op := Op.unOp UnOp.not 4 (Operand.tmp 22), type := 4, pos := "law.go:20", after := #[{ on := 8, ground := Ground.data }, { on := 3, ground := Ground.guard }], guard := some (3, false) }) (v := ?_) rfl (by kernel_rfl) (by kernel_rfl) (by kernel_rfl) (fun _ _ _ h => h) (by rfl) ?_ ?_
  rotate_left
  · (intro x; go_simp; try with_reducible rfl)
  try simp only [Act.put, List.setIfInBounds_toArray, List.set_cons_zero, List.set_cons_succ]
  refine any_read (i := 10) (o := { dst := some 24, op := Op.pick (Operand.tmp 17) (Operand.const (Value.bool true)) (Operand.tmp 23), type := 4, pos := "law.go:20", after := #[{ on := 3, ground := Ground.data }, { on := 9, ground := Ground.data }], guard := none }) (v := ?_) rfl (by kernel_rfl) (by kernel_rfl) (by kernel_rfl) (fun _ _ _ h => h) (by rfl) ?_ ?_
  rotate_left
  · (intro x; go_simp; try with_reducible rfl)
  try simp only [Act.put, List.setIfInBounds_toArray, List.set_cons_zero, List.set_cons_succ]
  refine any_read (i := 11) (o := { dst := some 25, op := Op.move (Operand.tmp 24), type := 4, pos := "law.go:20", after := #[{ on := 10, ground := Ground.data }, { on := 8, ground := Ground.chain }], guard := none }) (v := ?_) rfl (by kernel_rfl) (by kernel_rfl) (by kernel_rfl) (fun _ _ _ h => h) (by rfl) ?_ ?_
  rotate_left
  · (intro x; go_simp; try with_reducible rfl)
  try simp only [Act.put, List.setIfInBounds_toArray, List.set_cons_zero, List.set_cons_succ]
  refine any_read (i := 12) (o := { dst := some 26, op := Op.move (Operand.tmp 2), type := 28, pos := "law.go:20", after := #[{ on := 11, ground := Ground.guard }], guard := some (11, false) }) (v := ?_) rfl (by kernel_rfl) (by kernel_rfl) (by kernel_rfl) (fun _ _ _ h => h) (by rfl) ?_ ?_
  rotate_left
  · (intro x; go_simp; try with_reducible rfl)
  try simp only [Act.put, List.setIfInBounds_toArray, List.set_cons_zero, List.set_cons_succ]
  refine any_read (i := 13) (o := { dst := some 27, op := Op.indexAddr 28 (Operand.tmp 26) (Operand.const (Value.int IntKind.i64 1)), type := 0, pos := "law.go:20", after := #[{ on := 12, ground := Ground.data }, { on := 11, ground := Ground.guard }], guard := some (11, false) }) (v := ?_) rfl (by kernel_rfl) (by kernel_rfl) (by kernel_rfl) (fun _ _ _ h => h) (by rfl) ?_ ?_
  rotate_left
  · (intro x; go_simp; try with_reducible rfl)
  try simp only [Act.put, List.setIfInBounds_toArray, List.set_cons_zero, List.set_cons_succ]
  refine any_read (i := 14) (o := { dst := some 28, op := Op.load 22 (Operand.tmp 27), type := 22, pos := "law.go:20", after := #[{ on := 13, ground := Ground.data }, { on := 11, ground := Ground.guard }], guard := some (11, false) }) (v := ?_) rfl (by kernel_rfl) (by kernel_rfl) (by kernel_rfl) (fun _ _ _ h => h) (by rfl) ?_ ?_
  rotate_left
  · (intro x; go_simp; try with_reducible rfl)
  try simp only [Act.put, List.setIfInBounds_toArray, List.set_cons_zero, List.set_cons_succ]
  refine any_read (i := 15) (o := { dst := some 29, op := Op.move (Operand.tmp 1), type := 22, pos := "law.go:20", after := #[{ on := 11, ground := Ground.guard }], guard := some (11, false) }) (v := ?_) rfl (by kernel_rfl) (by kernel_rfl) (by kernel_rfl) (fun _ _ _ h => h) (by rfl) ?_ ?_
  rotate_left
  · (intro x; go_simp; try with_reducible rfl)
  try simp only [Act.put, List.setIfInBounds_toArray, List.set_cons_zero, List.set_cons_succ]
  refine any_call (i := 16) (o := { dst := some 30, op := Op.call { callee := Callee.value (Operand.func 13), args := #[Operand.tmp 28, Operand.tmp 29], argTypes := #[22, 22] }, type := 4, pos := "law.go:20", after := #[{ on := 14, ground := Ground.data }, { on := 15, ground := Ground.data }, { on := 11, ground := Ground.chain }, { on := 11, ground := Ground.guard }], guard := some (11, false) }) rfl (by kernel_rfl) (by rfl) (fun K hK => ?_)
  go_simp
  refine (same_is HK3.out.i2 HK3.out.ib (b := true) (by decide +kernel)).mono ?_
  rintro e w30 ⟨rfl, hb⟩
  refine hK.out _ _ hb ?_
  replace HK3 := Lib.hid (HK3.out.later hb)
  clear hb hK K l2
  try simp only [Act.put, List.setIfInBounds_toArray, List.set_cons_zero, List.set_cons_succ]
  refine any_read (i := 17) (o := { dst := some 31, op := Op.unOp UnOp.not 4 (Operand.tmp 30), type := 4, pos := "law.go:20", after := #[{ on := 16, ground := Ground.data }, { on := 11, ground := Ground.guard }], guard := some (11, false) }) (v := ?_) rfl (by kernel_rfl) (by kernel_rfl) (by kernel_rfl) (fun _ _ _ h => h) (by rfl) ?_ ?_
  rotate_left
  · (intro x; go_simp; try with_reducible rfl)
  try simp only [Act.put, List.setIfInBounds_toArray, List.set_cons_zero, List.set_cons_succ]
  refine any_read (i := 18) (o := { dst := some 32, op := Op.pick (Operand.tmp 25) (Operand.const (Value.bool true)) (Operand.tmp 31), type := 4, pos := "law.go:20", after := #[{ on := 11, ground := Ground.data }, { on := 17, ground := Ground.data }], guard := none }) (v := ?_) rfl (by kernel_rfl) (by kernel_rfl) (by kernel_rfl) (fun _ _ _ h => h) (by rfl) ?_ ?_
  rotate_left
  · (intro x; go_simp; try with_reducible rfl)
  try simp only [Act.put, List.setIfInBounds_toArray, List.set_cons_zero, List.set_cons_succ]
  refine wpAnyH_done (by kernel_rfl) ?_ _
  go_wp2_with fail
  refine (vint_any 2 _).mono ?_
  rintro e w6 ⟨rfl, hb6⟩
  go_wp2_with fail
  refine (vint_any 1 _).mono ?_
  rintro e w7 ⟨rfl, hb7⟩
  have HIB := Lib.hid ((HK3.out.ib.later hb6).later hb7)
  have HB := Lib.hid (below_then (below_then HK3.out.below hb6) hb7)
  clear hb6 hb7 HK3
  go_upto_region 6 with fail
  have hn := one_new w7 (Pt.box ⟨Pd.voidP, none, 0⟩)
  have ho : Owned w7.heap.size (w7.alloc (Pt.box ⟨Pd.voidP, none, 0⟩)) ⟨some ⟨w7.heap.size, 0, none⟩, 1, [⟨Pd.voidP, none, 0⟩]⟩ := one_owned w7 _ (fun B hB => OwnW.nil _ _ _ (by rw [World.size_alloc]; omega))
  have HIV : Hid (Is (w7.alloc (Pt.box ⟨Pd.voidP, none, 0⟩)) ⟨some ⟨w7.heap.size, 0, none⟩, 1, [⟨Pd.voidP, none, 0⟩]⟩ [Pd.voidP]) := ⟨ho.is (fun p hp => by rw [List.mem_singleton.1 hp]; exact Pd.fits_closed (by decide +kernel)), rfl⟩
  replace HIB := Lib.hid (HIB.out.later hn)
  replace HB := Lib.hid (below_then HB.out hn)
  clear hn ho
  dsimp only [Pt.box, Pt.cells, List.length_nil] at HIV HIB HB
  generalize w7.alloc _ = w8 at HIV HIB HB ⊢
  obtain ⟨v, hv⟩ : ∃ v : Ft, v = ⟨some ⟨w7.heap.size, 0, none⟩, 1, [⟨Pd.voidP, none, 0⟩]⟩ := ⟨_, rfl⟩
  rw [← hv] at HIV
  rw [show Value.slice (some ⟨w7.heap.size, 0, none⟩) 1 1 = .slice v.A v.l.length v.c by rw [hv]; rfl]
  clear hv
  go_wp2_with fail
  refine (more_any ⟨#[97]⟩ 1 d97 (by decide) (by decide) _).mono ?_
  rintro e w9 ⟨f1, rfl, i1, o1, hb9⟩
  go_wp2_with fail
  refine (vint_any 4 _).mono ?_
  rintro e w10 ⟨rfl, hb10⟩
  have hb810 := below_then hb9 hb10
  have HI1 := Lib.hid (i1.later hb10)
  have HO1 := Lib.hid (o1.later hb10)
  have H810 := Lib.hid hb810
  clear i1 o1 hb9 hb10 hb810
  have HL1 : Hid (f1.l.length + 1 ≤ 1000000) := by rw [show f1.l.length = 1 from HI1.out.len]; show 1 + 1 ≤ 1000000; omega
  go_upto_region 7 with (first | (at_builtin; refine wpList_ownw (k := 13) rfl _ _ 22 rfl Tryz.underlying22 prd_info rfl (by decide) w8.heap.size _ f1.l.length (pflat f1.l) rfl (HO1.out.row.later (one_new _ _)) _ 1 1 rfl (fun h => by cases h) (pflat [⟨Pd.lessT, none, 0⟩]) (new_pt w10 ⟨Pd.lessT, none, 0⟩) (pflat_one _) HL1.out (by decide) ?_; intro v2 w11 hO hK; have HO := Lib.hid hO; have HKK := Lib.hid hK; clear hO hK))
  have hn := one_new w10 (Pt.box ⟨Pd.lessT, none, 0⟩)
  have hOx : OwnS w8.heap.size (w10.alloc (Pt.box ⟨Pd.lessT, none, 0⟩)) ⟨Pd.lessT, none, 0⟩ := OwnW.nil _ _ _ (Nat.le_trans H810.out.size hn.size)
  have HKA := Lib.hid (below_then H810.out hn)
  obtain ⟨t, rfl, tt, ot⟩ := (HO1.out.later hn).push hOx HO.out HKK.out
  have hb11 : Below w8.heap.size w8 w11 := HKA.out.trans (HKK.out.below HKA.out.size (fun i hi e => by have := ownw_base HO1.out.row i e; omega))
  have HK : Hid (Kn7 w w11 b v t) := ⟨HIB.out.later hb11, HIV.out.later hb11, ⟨ot.is (fun p hp => by
    rw [tt, HI1.out.ts] at hp
    simp only [List.mem_append, List.mem_cons, List.not_mem_nil, or_false] at hp
    rcases hp with rfl | rfl <;> exact Pd.fits_closed (by decide +kernel)), by rw [tt, HI1.out.ts]; rfl⟩, below_then HB.out hb11⟩
  have HTA : Hid (∃ a, t.A = some a) := ot.some (by rw [HK.out.it.len]; decide)
  clear hn hOx HKA tt ot hb11 HIB HIV HI1 HO1 H810 HL1 HO HKK HB
  go_upto_region 8 with fail
  refine region_split 19 ?_
  simp only [List.append_eq, List.cons_append, List.nil_append, List.take_succ_cons, List.take_zero, List.drop_succ_cons, List.drop_zero]
  go_wp2_with fail
  refine (covers_is (b := true) (is_nil _) HK.out.ib (by decide +kernel)).mono ?_
  rintro e wa ⟨rfl, hb⟩
  replace HK := Lib.hid (HK.out.later hb)
  clear hb
  go_wp2_with fail
  refine (covers_is (b := false) HK.out.ib (is_nil _) (by decide +kernel)).mono ?_
  rintro e wb ⟨rfl, hb⟩
  replace HK := Lib.hid (HK.out.later hb)
  clear hb
  go_wp2_with fail
  refine (covers_is (b := true) HK.out.ib HK.out.iv (by decide +kernel)).mono ?_
  rintro e wc' ⟨rfl, hb⟩
  replace HK := Lib.hid (HK.out.later hb)
  clear hb
  go_wp2_with fail
  refine (right_is (b := true) HK.out.it (by decide +kernel)).mono ?_
  rintro e wd ⟨rfl, hb⟩
  replace HK := Lib.hid (HK.out.later hb)
  clear hb
  obtain ⟨a, ha⟩ := HTA.out
  obtain ⟨h, we, happ, hih, hbe⟩ := append_is HK.out.ib HK.out.it HBA.out ha (by rw [HBC.out, HBL.out, HK.out.it.len]; decide) (by rw [HBL.out, HK.out.it.len]; decide)
  replace HK := Lib.hid (HK.out.later hbe)
  have HIH := Lib.hid hih
  have HAP := Lib.hid happ
  clear hih hbe ha happ
  go_wp2_with fail
  unfold Second
  refine wpList_append_ran rfl _ _ 22 rfl _ _ rfl rfl HAP.out ?_
  go_wp2_with fail
  refine (right_is (b := false) HIH.out (by decide +kernel)).mono ?_
  rintro e wf ⟨rfl, hb⟩
  replace HK := Lib.hid (HK.out.later hb)
  clear hb HAP HIH
  go_wp2_with fail
  refine (fat_any 3 (by decide) (by decide) _).mono ?_
  rintro e wg ⟨Awg, rfl, ha, hb⟩
  replace HK := Lib.hid (HK.out.later hb)
  have HA := Lib.hid ha
  clear ha hb
  go_wp2_with fail
  refine (takes_is (b := true) HK.out.it HA.out (att_fit 3 (by decide) (by decide)) (by decide +kernel)).mono ?_
  rintro e wh ⟨rfl, hb⟩
  replace HK := Lib.hid (HK.out.later hb)
  clear hb
  clear HA
  go_wp2_with fail
  refine (fat_any 4 (by decide) (by decide) _).mono ?_
  rintro e wi ⟨Awi, rfl, ha, hb⟩
  replace HK := Lib.hid (HK.out.later hb)
  have HA := Lib.hid ha
  clear ha hb
  go_wp2_with fail
  refine (takes_is (b := false) HK.out.it HA.out (att_fit 4 (by decide) (by decide)) (by decide +kernel)).mono ?_
  rintro e wj ⟨rfl, hb⟩
  replace HK := Lib.hid (HK.out.later hb)
  clear hb
  clear HA
  go_wp2_with fail
  refine (fat_any 1 (by decide) (by decide) _).mono ?_
  rintro e wk ⟨Awk, rfl, ha, hb⟩
  replace HK := Lib.hid (HK.out.later hb)
  have HA := Lib.hid ha
  clear ha hb
  go_wp2_with fail
  refine (takes_is (b := false) HK.out.ib HA.out (att_fit 1 (by decide) (by decide)) (by decide +kernel)).mono ?_
  rintro e wl ⟨rfl, hb⟩
  replace HK := Lib.hid (HK.out.later hb)
  clear hb
  clear HA
  go_wp2_with fail
  refine (takes_is (b := true) (A := none) (n := 0) (c := 0) (a := []) (is_nil _) ⟨Rs.nil _ _ _, by simp, by decide⟩ (by simp) (by decide +kernel)).mono ?_
  rintro e wm ⟨rfl, hb⟩
  replace HK := Lib.hid (HK.out.later hb)
  clear hb
  go_wp2_with fail
  refine (reduce_is (L := []) (ts := []) (ts' := []) (A := none) (n := 0) (c := 0) ⟨Rs.nil _ _ _, by simp, by decide⟩ rfl (by show 0 ≤ 900; omega) (by simp) rfl).mono ?_
  rintro e wn hpost
  obtain ⟨An, cn, Mn, rfl, hMn, -, -, -, hb⟩ := hpost.fs (by simp) (by decide)
  obtain rfl : Mn = [] := List.map_eq_nil_iff.1 hMn
  replace HK := Lib.hid (HK.out.later hb)
  clear hb hpost hMn
  go_wp2_with fail
  refine (fat_any 1 (by decide) (by decide) _).mono ?_
  rintro e wo ⟨Awo, rfl, ha, hb⟩
  replace HK := Lib.hid (HK.out.later hb)
  have HA := Lib.hid ha
  clear ha hb
  go_wp2_with fail
  refine (any_is (b := false) (L := []) (ts := []) (A := none) (n := 0) (c := 0) ⟨Rs.nil _ _ _, by simp, by decide⟩ rfl HA.out (att_fit 1 (by decide) (by decide)) (by decide +kernel)).mono ?_
  rintro e wp ⟨rfl, hb⟩
  replace HK := Lib.hid (HK.out.later hb)
  clear hb
  clear HA
  have hn := one_new wp (.cells (fflat [b, t]).toArray 22)
  have HF2 : Hid (Fs (wp.alloc (.cells (fflat [b, t]).toArray 22)) (some ⟨wp.heap.size, 0, none⟩) 2 [b, t]) := ⟨new_fts wp [b, t], by
    intro f hf
    simp only [List.mem_cons, List.not_mem_nil, or_false] at hf
    rcases hf with rfl | rfl
    · exact (HK.out.ib.later hn).is
    · exact (HK.out.it.later hn).is, by omega⟩
  have HT2 : Hid ([b, t].map Fi.tests = [[Pd.hasT], [Pd.moreT ⟨#[97]⟩ 1, Pd.lessT]]) := by
    show [b, t].map Fi.tests = _
    rw [List.map_cons, List.map_cons, HK.out.ib.ts, HK.out.it.ts]
    rfl
  replace HK := Lib.hid (HK.out.later hn)
  clear hn
  go_wp2_with fail
  refine (fat_any 2 (by decide) (by decide) _).mono ?_
  rintro e wq ⟨Awq, rfl, ha, hb⟩
  replace HK := Lib.hid (HK.out.later hb)
  replace HF2 := Lib.hid (HF2.out.later hb)
  have HA := Lib.hid ha
  clear ha hb
  go_wp2_with fail
  refine (any_is (b := true) HF2.out HT2.out HA.out (att_fit 2 (by decide) (by decide)) (by decide +kernel)).mono ?_
  rintro e wr ⟨rfl, hb⟩
  replace HK := Lib.hid (HK.out.later hb)
  clear hb
  clear HA HF2 HT2
  go_wp2_with fail
  refine (more_any ⟨#[97]⟩ 1 d97 (by decide) (by decide) _).mono ?_
  rintro e ws ⟨fs, rfl, is, -, hb⟩
  replace HK := Lib.hid (HK.out.later hb)
  have HM := Lib.hid is
  clear is hb
  go_wp2_with fail
  refine (covers_is (b := true) HM.out HK.out.it (by decide +kernel)).mono ?_
  rintro e wt ⟨rfl, hb⟩
  replace HK := Lib.hid (HK.out.later hb)
  clear hb
  clear HM
  go_wp2_with fail
  refine (more_any ⟨#[97]⟩ 1 d97 (by decide) (by decide) _).mono ?_
  rintro e wu ⟨fu, rfl, iu, -, hb⟩
  replace HK := Lib.hid (HK.out.later hb)
  have HM := Lib.hid iu
  clear iu hb
  go_wp2_with fail
  refine (covers_is (b := false) HK.out.it HM.out (by decide +kernel)).mono ?_
  rintro e wv ⟨rfl, hb⟩
  replace HK := Lib.hid (HK.out.later hb)
  clear hb
  clear HM
  go_wp2_with fail
  go_ret
  exact ⟨rfl, HK.out.below⟩
theorem known_any (w : World) : Calls Tryz.prog 18 #[] w fun e w' => e = .returned (.bool true) ∧ Below w.heap.size w w' := by
  go_enter Tryz.func18, Tryz.ntmps18
  go_wp2_with fail
  refine (fknown_any _).mono ?_
  rintro e w' ⟨rfl, hb⟩
  have HB := Lib.hid hb
  clear hb
  go_wp2_with fail
  go_ret
  exact ⟨rfl, HB.out⟩
end Go.Proofs.YtfbfbajccphkoaaGreat
