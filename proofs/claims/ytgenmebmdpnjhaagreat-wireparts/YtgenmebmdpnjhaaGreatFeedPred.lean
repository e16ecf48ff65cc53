
/- Feed.Pred: some right test of a name, its Set in memory of its own. -/
import Derived.Test.YtgenmebmdpnjhaaGreatG3
import Derived.Test.YtgenmebmdpnjhaaGreatG1c
namespace Go.Proofs.YtgenmebmdpnjhaaGreat
open Go.RowKit
set_option linter.unusedVariables false

/-- What Feed.Pred tells. -/
def PredPost (nm : ByteArray) (B b a : Nat) (w : World) (e : Ending) (w' : World) : Prop :=
  ∃ (p : Prd) (A : Option Addr) (c : Nat), e = .returned (pv p A p.set.length c) ∧ Pd.Fed nm p ∧ OwnV w.heap.size w' (.slice A p.set.length c) p.set ∧ IsFeed B w' b (a + 10) ∧ Kept (· = b) w w'

theorem prefix_at (w : World) (q : Nat) (hq : q < 4) : ∃ sk : ByteArray, sk.size ≤ 12 ∧
    (Instr.index 125 (Value.agg #[Value.string ⟨#[]⟩, Value.string ⟨#[97]⟩, Value.string ⟨#[98]⟩, Value.string ⟨#[97, 98]⟩]) (Value.int IntKind.i64 (q : Int))).run Tryz.prog w = .ok (.string sk) w := by
  match q, hq with
  | 0, _ => exact ⟨⟨#[]⟩, by decide, by kernel_rfl⟩
  | 1, _ => exact ⟨⟨#[97]⟩, by decide, by kernel_rfl⟩
  | 2, _ => exact ⟨⟨#[98]⟩, by decide, by kernel_rfl⟩
  | 3, _ => exact ⟨⟨#[97, 98]⟩, by decide, by kernel_rfl⟩

abbrev Pd.bare (nm : ByteArray) (t : Int) : Prd := ⟨nm, t, ⟨0, 0, 0, ⟨#[]⟩, false⟩, ⟨0, 0, 0, ⟨#[]⟩, false⟩, []⟩
theorem below_rw {w w' : World} {g : Nat} {o : Obj} (k : Below w.heap.size w w') (h : w.heap[g]? = some o) : w'.heap[g]? = some o := (k.block g (row_lt h)).trans h
namespace Pd
abbrev zv : Val := ⟨0, 0, 0, ⟨#[]⟩, false⟩
theorem zerov : zero zv = true := Vl.same_self _
theorem smallv : Small zv := small0
theorem fed_has (nm : ByteArray) : Fed nm (bare nm 1) := ⟨rfl, by show (1 : Int) ≤ 1; decide, by show (1 : Int) ≤ 10; decide, small0, small0, by show 0 ≤ 4; decide, by simp, fun h => by simp [Pd.right, h, zerov]⟩
theorem fed_v (nm : ByteArray) {t : Int} {v : Val} (h1 : 2 ≤ t) (h2 : t ≤ 7) (hr : Vl.right v = true) (hs : Small v) : Fed nm ⟨nm, t, v, zv, []⟩ :=
  ⟨rfl, by show 1 ≤ t; omega, by show t ≤ 10; omega, hs, small0, by show 0 ≤ 4; decide, by simp, fun h => by
    have e1 : ¬ t = 1 := by omega
    have e2 : ¬ t = 8 := by omega
    have e3 : ¬ t = 9 := by omega
    have e4 : ¬ t = 10 := by omega
    simp [Pd.right, h, zerov, hr, e1, e2, e3, e4, h1, h2]⟩
theorem fed_range (nm : ByteArray) {v u : Val} (hr : Vl.right v = true) (hs : Small v) (hr' : Vl.right u = true) (hs' : Small u) : Fed nm ⟨nm, 8, v, u, []⟩ :=
  ⟨rfl, by show (1 : Int) ≤ 8; decide, by show (8 : Int) ≤ 10; decide, hs, hs', by show 0 ≤ 4; decide, by simp, fun h => by simp [Pd.right, h, hr, hr']⟩
theorem fed_prefix (nm : ByteArray) {s : ByteArray} (hs : s.size ≤ 12) : Fed nm ⟨nm, 9, ⟨3, 0, 0, s, false⟩, zv, []⟩ :=
  ⟨rfl, by show (1 : Int) ≤ 9; decide, by show (9 : Int) ≤ 10; decide, ⟨by show (-9223372036854775808 : Int) ≤ 0; decide, by show (0 : Int) ≤ 9223372036854775807; decide, by show 0 < 2 ^ 64; decide, hs⟩, small0, by show 0 ≤ 4; decide, by simp, fun h => by simp [Pd.right, h, zerov, right_text hs]⟩
theorem fed_in (nm : ByteArray) {l : List Val} (h1 : 1 ≤ l.length) (h2 : l.length ≤ 4) (hr : ∀ a, a ∈ l → Vl.right a = true ∧ Small a) : Fed nm ⟨nm, 10, zv, zv, l⟩ :=
  ⟨rfl, by show (1 : Int) ≤ 10; decide, by show (10 : Int) ≤ 10; decide, small0, small0, h2, fun a ha => (hr a ha).2, fun h => by
    have e : l.all Vl.right = true := by rw [List.all_eq_true]; exact fun a ha => (hr a ha).1
    simp [Pd.right, h, zerov, rset, h1, h2, e]⟩
end Pd
theorem Kept.toV {S : Nat → Prop} {a w : World} {g : Nat} (v2 v3 v4 v5 v6 : Value) (h : Kept S a w) (hg : a.heap.size ≤ g) : Kept S a (setV w g v2 v3 v4 v5 v6) :=
  h.trans (keptV w g v2 v3 v4 v5 v6) (fun i hi e => by omega)
theorem Kept.toW {S : Nat → Prop} {a w : World} {g : Nat} (v2 v3 v4 v5 v6 : Value) (h : Kept S a w) (hg : a.heap.size ≤ g) : Kept S a (setW w g v2 v3 v4 v5 v6) :=
  h.trans (keptW w g v2 v3 v4 v5 v6) (fun i hi e => by omega)
/-- How Feed.Pred ends: p is in g + 1, the result's block is g. -/
theorem pred_ends {nm : ByteArray} {B b a : Nat} {w w2 : World} {p z : Prd} {A : Option Addr} {c : Nat} (hr : w2.heap[w.heap.size]? = some (pbox z none 0 0)) (hF : IsFeed B w2 b (a + 10)) (hK : Kept (· = b) w w2) (hb : b < w.heap.size)
    (hfed : Pd.Fed nm p) (hO : OwnV (w.heap.size + 1) w2 (.slice A p.set.length c) p.set) :
    PredPost nm B b a w (.returned (pv p A p.set.length c)) (set13 w2 w.heap.size (.string p.name) (.int .i64 p.t) (.int .i64 p.v.k) (.int .i64 p.v.n) (.float .f64 p.v.x) (.string p.v.s) (.bool p.v.b) (.int .i64 p.w.k) (.int .i64 p.w.n) (.float .f64 p.w.x) (.string p.w.s) (.bool p.w.b) (.slice A p.set.length c)) := by
  have k := kept13 w2 w.heap.size (.string p.name) (.int .i64 p.t) (.int .i64 p.v.k) (.int .i64 p.v.n) (.float .f64 p.v.x) (.string p.v.s) (.bool p.v.b) (.int .i64 p.w.k) (.int .i64 p.w.n) (.float .f64 p.w.x) (.string p.w.s) (.bool p.w.b) (.slice A p.set.length c)
  have hB := hF.1
  exact ⟨p, A, c, rfl, hfed, ownw_sub (hO.kept k (ownw_apart hO (by omega))) (by omega), hF.kept k (by show ¬ b = w.heap.size; omega) (by intro i hi e; omega), hK.trans k (fun i hi e => by omega)⟩

/-- The loop that makes a Set. -/
def PredInv (nm : ByteArray) (B b a q : Nat) (w : World) (ii : Value) (wr : World) : Prop := ∃ (z : Int) (l : List Val) (A : Option Addr) (c : Nat), ii = .int .i64 z ∧ -1 ≤ z ∧ z + (l.length : Int) = (q : Int) ∧ (∀ a, a ∈ l → Vl.right a = true ∧ Pd.Small a) ∧ OwnV (w.heap.size + 2) wr (.slice A l.length c) l ∧ IsFeed B wr b (a + 2 + 2 * l.length) ∧ Kept (· = b) w wr ∧ wr.heap[w.heap.size]? = some (pbox (Pd.bare ⟨#[]⟩ 0) none 0 0) ∧ wr.heap[w.heap.size + 1]? = some (pbox ⟨nm, 10, Pd.zv, Pd.zv, l⟩ A l.length c)
theorem pred_round {nm : ByteArray} {B b a q : Nat} {w w6 : World} {z : Int} {l : List Val} {A A' : Option Addr} {c c' : Nat} {v : Val} (hzl : z + (l.length : Int) = (q : Int)) (h0 : 0 ≤ z) (hl : ∀ a, a ∈ l → Vl.right a = true ∧ Pd.Small a) (hv : Vl.right v = true) (hs : Pd.Small v)
    (hO : OwnW 5 (w.heap.size + 2) 64 w6 (.slice A' (l.length + 1) c') (l.length + 1) (vflat l ++ vflat [v])) (hF : IsFeed B w6 b (a + 2 + 2 * l.length + 2)) (hK : Kept (· = b) w w6) (h4 : w6.heap[w.heap.size]? = some (pbox (Pd.bare ⟨#[]⟩ 0) none 0 0)) (h5 : w6.heap[w.heap.size + 1]? = some (pbox ⟨nm, 10, Pd.zv, Pd.zv, l⟩ A l.length c)) (hb : b < w.heap.size) :
    PredInv nm B b a q w (.int .i64 (z - 1)) (w6.setCell ⟨w.heap.size + 1, 12, none⟩ (.slice A' (l.length + 1) c')) := by
  have k : Kept (· = w.heap.size + 1) w6 (w6.setCell ⟨w.heap.size + 1, 12, none⟩ (.slice A' (l.length + 1) c')) := Kept.setCell (S := (· = w.heap.size + 1)) _ _ rfl _
  have hO' := hO.kept k (ownw_apart hO (by omega))
  have e : (l ++ [v]).length = l.length + 1 := by simp
  have hB := hF.1
  refine ⟨z - 1, l ++ [v], A', c', rfl, by omega, by rw [e]; omega, ?_, ?_, ?_, hK.trans k (fun i hi e => by omega), k.row h4 (by show ¬ w.heap.size = w.heap.size + 1; omega), ?_⟩
  · intro x hx
    rcases List.mem_append.1 hx with hx | hx
    · exact hl x hx
    · rw [List.mem_singleton.1 hx]; exact ⟨hv, hs⟩
  · rw [e]; exact ownv_add (l := l) (m := [v]) hO'
  · rw [e]; exact (hF.kept k (by show ¬ b = w.heap.size + 1; omega) (by intro i hi e; omega)).more (by omega)
  · rw [e]; exact turnS h5 A' (l.length + 1) c' (l ++ [v])
set_option pp.deepTerms true in
set_option pp.maxSteps 10000000 in
set_option maxRecDepth 100000 in
set_option maxHeartbeats 8000000 in
theorem feedpred_any {B b a : Nat} (nm : ByteArray) (w : World) (ha : a < 4611686018427386000) (hf : IsFeed B w b a) :
    Calls Tryz.prog 60 #[.pointer (some ⟨b, 0, none⟩), .string nm] w (PredPost nm B b a w) := by
  have hlt := hf.lt
  have HF := Lib.hid hf
  clear hf
  have hst := store_float
  go_enter Tryz.func60, Tryz.ntmps60
  go_wp2_with fail
  refine (next_any (a := a) 10 (by omega) (by omega) _ (by omega) (B := B) ?_).mono ?_
  · exact HF.out.below ((Below.refl _ _).alloc (Nat.le_refl _) _)
  rintro e w1 ⟨k, hk, rfl, hF1, hK1, hs1⟩
  have hg5 : w1.heap.size = w.heap.size + 1 := by rw [hs1]; simp
  have HK1 : Hid (Kept (· = b) w w1) := (Kept.alloc _ w _).then hK1
  have HR4 : Hid (w1.heap[w.heap.size]? = some (pbox (Pd.bare ⟨#[]⟩ 0) none 0 0)) := hK1.row (heap_alloc_new _ _) (by show ¬ w.heap.size = b; omega)
  have HF1 := Lib.hid hF1
  have uk : IntKind.i64.wrap (1 + ((k : Nat) : Int)) = 1 + ((k : Nat) : Int) := IntWalk.i64_in _ (by omega)
  clear hF1 hK1 hs1 HF
  go_upto_region 2 with fail
  have hn := one_new w1 (pbox (Pd.bare nm (1 + (k : Int))) none 0 0)
  have HF2 := Lib.hid (HF1.out.below hn)
  have HK2 := Lib.hid (HK1.out.then (Kept.ofBelow hn))
  have HR4 := Lib.hid (below_rw hn HR4.out)
  have HR5 := Lib.hid (heap_alloc_new w1 (pbox (Pd.bare nm (1 + (k : Int))) none 0 0))
  rw [hg5] at HR5
  clear hn uk HF1 HK1
  have ht1 : 1 ≤ 1 + (k : Int) := by omega
  have ht2 : 1 + (k : Int) ≤ 10 := by omega
  dsimp only [pbox] at HF2 HK2 HR4 HR5
  generalize (1 + (k : Int)) = t at HF2 HK2 HR4 HR5 ht1 ht2 ⊢
  generalize w1.alloc _ = w2 at HF2 HK2 HR4 HR5 ⊢
  have HR4 : Hid (w2.heap[w.heap.size]? = some (pbox (Pd.bare ⟨#[]⟩ 0) none 0 0)) := HR4
  have HR5 : Hid (w2.heap[w.heap.size + 1]? = some (pbox (Pd.bare nm t) none 0 0)) := HR5
  have hs2 : w.heap.size + 1 < w2.heap.size := row_lt HR5.out
  clear hk hg5
  obtain ⟨c0, c1, c2, c3, c4, c5, c6, c7, c8, c9, c10, c11, c12, f0, f1, f2, f3, f4, f5, f6, f7, f8, f9, f10, f11, f12⟩ := thirteen HR5.out
  obtain ⟨d0, d1, d2, d3, d4, d5, d6, d7, d8, d9, d10, d11, d12, e0, e1, e2, e3, e4, e5, e6, e7, e8, e9, e10, e11, e12⟩ := thirteen HR4.out
  dsimp only at c0 c1 c2 c3 c4 c5 c6 c7 c8 c9 c10 c11 c12 d0 d1 d2 d3 d4 d5 d6 d7 d8 d9 d10 d11 d12
  by_cases t1 : t = 1
  · subst t1
    go_wp2_with fail
    refine bodyPost_ret (results_cell_row rfl _ _ _ _ _ _ _ rfl (row13 _ _ _ _ _ _ _ _ _ _ _ _ _ HR4.out) Tryz.underlying98 rfl (by kernel_rfl)) rfl ?_
    exact pred_ends (p := Pd.bare nm 1) HR4.out (HF2.out.more (by omega)) HK2.out hlt (Pd.fed_has nm) (OwnW.nil _ _ _ (by omega))
  by_cases t9 : t = 9
  · subst t9
    go_wp2_with fail
    refine (next_any (B := B) (a := a + 1) 4 (by omega) (by omega) _ (by omega) HF2.out).mono ?_
    rintro e w3 ⟨q, hq, rfl, hF3, hK3, hs3⟩
    have HF3 := Lib.hid hF3
    have HK3 := Lib.hid (HK2.out.then hK3)
    have HR4 := Lib.hid (hK3.row HR4.out (by show ¬ w.heap.size = b; omega))
    have HR5 := Lib.hid (hK3.row HR5.out (by show ¬ w.heap.size + 1 = b; omega))
    obtain ⟨s, hs, hix⟩ := prefix_at w3 q (by omega)
    clear c0 c1 c2 c3 c4 c5 c6 c7 c8 c9 c10 c11 c12 f0 f1 f2 f3 f4 f5 f6 f7 f8 f9 f10 f11 f12 d0 d1 d2 d3 d4 d5 d6 d7 d8 d9 d10 d11 d12 e0 e1 e2 e3 e4 e5 e6 e7 e8 e9 e10 e11 e12 hF3 hK3 HF2 HK2
    have T5 := thirteen HR5.out
    obtain ⟨c2, c3, c4, c5, c6, f2, f3, f4, f5, f6⟩ : _ ∧ _ ∧ _ ∧ _ ∧ _ ∧ _ ∧ _ ∧ _ ∧ _ ∧ _ := ⟨T5.h2, T5.h3, T5.h4, T5.h5, T5.h6, T5.f2, T5.f3, T5.f4, T5.f5, T5.f6⟩
    clear T5
    go_upto_region 7 with fail
    clear c2 c3 c4 c5 c6 f2 f3 f4 f5 f6 hix
    have kV := keptV w3 (w.heap.size + 1) (.int .i64 3) (.int .i64 0) (.float .f64 0) (.string s) (.bool false)
    have HR4 := Lib.hid (kV.row HR4.out (by show ¬ w.heap.size = w.heap.size + 1; omega))
    have HR5 := Lib.hid (turnV HR5.out ⟨3, 0, 0, s, false⟩)
    have HF4 := Lib.hid (HF3.out.kept kV (by show ¬ b = w.heap.size + 1; omega) (by intro i hi e; have := HF3.out.1; omega))
    have HK4 := Lib.hid (HK3.out.trans kV (fun i hi e => by omega))
    clear kV HF3 HK3
    dsimp only [setV] at HR4 HR5 HF4 HK4
    generalize (((((w3.setCell ⟨w.heap.size + 1, 2, none⟩ _).setCell ⟨w.heap.size + 1, 3, none⟩ _).setCell ⟨w.heap.size + 1, 4, none⟩ _).setCell ⟨w.heap.size + 1, 5, none⟩ _).setCell ⟨w.heap.size + 1, 6, none⟩ _) = w4 at HR4 HR5 HF4 HK4 ⊢
    obtain ⟨c0, c1, c2, c3, c4, c5, c6, c7, c8, c9, c10, c11, c12, f0, f1, f2, f3, f4, f5, f6, f7, f8, f9, f10, f11, f12⟩ := thirteen HR5.out
    obtain ⟨d0, d1, d2, d3, d4, d5, d6, d7, d8, d9, d10, d11, d12, e0, e1, e2, e3, e4, e5, e6, e7, e8, e9, e10, e11, e12⟩ := thirteen HR4.out
    dsimp only at c0 c1 c2 c3 c4 c5 c6 c7 c8 c9 c10 c11 c12 d0 d1 d2 d3 d4 d5 d6 d7 d8 d9 d10 d11 d12
    go_wp2_with fail
    refine bodyPost_ret (results_cell_row rfl _ _ _ _ _ _ _ rfl (row13 _ _ _ _ _ _ _ _ _ _ _ _ _ HR4.out) Tryz.underlying98 rfl (by kernel_rfl)) rfl ?_
    exact pred_ends (p := ⟨nm, 9, ⟨3, 0, 0, s, false⟩, Pd.zv, []⟩) HR4.out (HF4.out.more (by omega)) HK4.out hlt (Pd.fed_prefix nm hs) (OwnW.nil _ _ _ (by have := row_lt HR5.out; omega))
  by_cases t10 : t = 10
  · subst t10
    go_wp2_with fail
    refine (next_any (B := B) (a := a + 1) 4 (by omega) (by omega) _ (by omega) HF2.out).mono ?_
    rintro e w3 ⟨q, hq, rfl, hF3, hK3, hs3⟩
    have HF3 := Lib.hid hF3
    have HK3 := Lib.hid (HK2.out.then hK3)
    have HR4 := Lib.hid (hK3.row HR4.out (by show ¬ w.heap.size = b; omega))
    have HR5 := Lib.hid (hK3.row HR5.out (by show ¬ w.heap.size + 1 = b; omega))
    clear c0 c1 c2 c3 c4 c5 c6 c7 c8 c9 c10 c11 c12 f0 f1 f2 f3 f4 f5 f6 f7 f8 f9 f10 f11 f12 d0 d1 d2 d3 d4 d5 d6 d7 d8 d9 d10 d11 d12 e0 e1 e2 e3 e4 e5 e6 e7 e8 e9 e10 e11 e12 hF3 hK3 HF2 HK2
    go_wp2_with fail
    go_loopw [6] (fun ii wr => PredInv nm B b a q w ii wr) (fun ii _ => (intOf ii + 1).toNat)
    case atStart => exact ⟨q, [], none, 0, rfl, by omega, by simp, by simp, OwnW.nil _ _ _ (by have := row_lt HR5.out; omega), HF3.out, HK3.out, HR4.out, HR5.out⟩
    case round =>
      obtain ⟨z, l, A, c, rfl, hz, hzl, hl, hO, hF, hK0, hR4, hR5⟩ := hrel
      have HL := Lib.hid hl
      clear HF3 HK3 HR4 HR5
      have HO3 := Lib.hid hO
      have HF3 := Lib.hid hF
      have HK3 := Lib.hid hK0
      have HR4 := Lib.hid hR4
      have HR5 := Lib.hid hR5
      clear hl hO hF hK0 hR4 hR5
      by_cases h0 : 0 ≤ z
      · go_wp2_with fail
        refine held_begin (fun _ => True) (by kernel_rfl) ?_
        have hd := drew_below wr
        replace HF3 := Lib.hid (HF3.out.below hd)
        replace HO3 := Lib.hid (HO3.out.later hd)
        replace HK3 := Lib.hid (HK3.out.then (Kept.ofBelow hd))
        replace HR4 := Lib.hid (below_rw hd HR4.out)
        replace HR5 := Lib.hid (below_rw hd HR5.out)
        clear hd
        generalize wr.drew = wd at HF3 HO3 HK3 HR4 HR5 ⊢
        refine held_read (i := 0) (o := { dst := some 34, op := Op.fieldAddr 98 (Operand.tmp 5) 4, type := 0, pos := "hand.go:81", after := #[], guard := none }) (v := ?_) rfl (by kernel_rfl) (by kernel_rfl) (by kernel_rfl) (fun _ _ _ h => h) (by rfl) trivial ?_ ?_
        rotate_left
        · (intro x hx; go_simp; try with_reducible rfl)
        try simp only [Act.put, List.setIfInBounds_toArray, List.set_cons_zero, List.set_cons_succ]
        refine held_read (i := 2) (o := { dst := some 36, op := Op.move (Operand.tmp 0), type := 24, pos := "hand.go:81", after := #[], guard := none }) (v := ?_) rfl (by kernel_rfl) (by kernel_rfl) (by kernel_rfl) (fun _ _ _ h => h) (by rfl) trivial ?_ ?_
        rotate_left
        · (intro x hx; go_simp; try with_reducible rfl)
        try simp only [Act.put, List.setIfInBounds_toArray, List.set_cons_zero, List.set_cons_succ]
        refine held_two (i := 1) (j := 3) (o := { dst := some 35, op := Op.load 96 (Operand.tmp 34), type := 96, pos := "hand.go:81", after := #[{ on := 0, ground := Ground.data }], guard := none }) (p := { dst := some 37, op := Op.call { callee := Callee.value (Operand.func 98), args := #[Operand.tmp 36], argTypes := #[24] }, type := 64, pos := "hand.go:81", after := #[{ on := 2, ground := Ground.data }], guard := none }) rfl rfl (by kernel_rfl) (by rfl) (by rfl) (fun K hK => ?_) (fun K hK => ?_)
        · skip
          have c12 := (thirteen HR5.out).h12
          try dsimp only at c12
          go_simp
          refine hK.out _ _ trivial ?_
          clear hK K c12
          try simp only [Act.put, List.setIfInBounds_toArray, List.set_cons_zero, List.set_cons_succ]
          refine held_call (i := 3) (o := { dst := some 37, op := Op.call { callee := Callee.value (Operand.func 98), args := #[Operand.tmp 36], argTypes := #[24] }, type := 64, pos := "hand.go:81", after := #[{ on := 2, ground := Ground.data }], guard := none }) rfl (by kernel_rfl) (by rfl) (fun K hK => ?_)
          go_simp
          refine (feedvalue_any _ (by omega) HF3.out).mono ?_
          rintro e wv ⟨vk, vn, vx, vs, vb, hv1, hv2, hv3, hv4, rfl, hF4, hK4⟩
          replace HO3 := Lib.hid (HO3.out.kept hK4 (ownw_apart HO3.out (by omega)))
          replace HK3 := Lib.hid (HK3.out.then hK4)
          replace HR4 := Lib.hid (hK4.row HR4.out (by show ¬ w.heap.size = b; omega))
          replace HR5 := Lib.hid (hK4.row HR5.out (by show ¬ w.heap.size + 1 = b; omega))
          replace HF3 := Lib.hid hF4
          have HS := Lib.hid (Pd.right_small hv1 hv2 hv3 hv4)
          have HV := Lib.hid hv4
          refine hK.out _ _ trivial ?_
          clear hK K hF4 hK4 hv1 hv2 hv3 hv4
          try simp only [Act.put, List.setIfInBounds_toArray, List.set_cons_zero, List.set_cons_succ]
          refine held_call (i := 4) (o := { dst := some 38, op := Op.buildSlice 96 1 #[(0, Operand.tmp 37)], type := 96, pos := "hand.go:81", after := #[{ on := 3, ground := Ground.data }], guard := none }) rfl (by kernel_rfl) (by rfl) (fun K hK => ?_)
          go_simp
          have hn := one_new wv (.cells #[.int .i64 vk, .int .i64 vn, .float .f64 vx, .string vs, .bool vb] 64)
          refine hK.out _ _ trivial ?_
          replace HO3 := Lib.hid (HO3.out.later hn)
          replace HK3 := Lib.hid (HK3.out.then (Kept.ofBelow hn))
          replace HR4 := Lib.hid (below_rw hn HR4.out)
          replace HR5 := Lib.hid (below_rw hn HR5.out)
          replace HF3 := Lib.hid (HF3.out.below hn)
          have HN := Lib.hid (new_val wv ⟨vk, vn, vx, vs, vb⟩)
          clear hn hK K
          try dsimp only [vbox] at HN
          generalize wv.alloc (.cells #[.int .i64 vk, .int .i64 vn, .float .f64 vx, .string vs, .bool vb] 64) = w4 at HO3 HK3 HR4 HR5 HF3 HN ⊢
          try simp only [Act.put, List.setIfInBounds_toArray, List.set_cons_zero, List.set_cons_succ]
          refine held_call (i := 5) (o := { dst := some 39, op := Op.call { callee := Callee.builtin Builtin.append, args := #[Operand.tmp 35, Operand.tmp 38], argTypes := #[96, 96] }, type := 96, pos := "hand.go:81", after := #[{ on := 1, ground := Ground.data }, { on := 4, ground := Ground.data }, { on := 3, ground := Ground.chain }], guard := none }) rfl (by kernel_rfl) (by rfl) (fun K hK => ?_)
          refine step_ownw (k := 5) _ _ 96 rfl Tryz.underlying96 val_info rfl (by decide) (w.heap.size + 2) _ _ _ rfl HO3.out _ 1 1 rfl (fun h => by cases h) (vflat [⟨vk, vn, vx, vs, vb⟩]) HN.out (vflat_one _) (by omega) (by decide) ?_
          intro v6 w6 hO6 hK6
          have hap := ownw_apart (b := b) HO3.out (by omega)
          have hbelow := ownw_base HO3.out
          refine hK.out _ _ trivial ?_
          have HK6 := Lib.hid (HK3.out.trans hK6 (fun i hi h => absurd (hbelow i h) (by omega)))
          have HR46 := Lib.hid (hK6.row HR4.out (fun h => absurd (hbelow _ h) (by omega)))
          have HR56 := Lib.hid (hK6.row HR5.out (fun h => absurd (hbelow _ h) (by omega)))
          have HF6 := Lib.hid (HF3.out.kept hK6 (fun h => hap _ h rfl) (fun i hi h => absurd (hbelow i h) (by have := HF3.out.1; omega)))
          have HO6 := Lib.hid hO6
          obtain ⟨A6, c6, rfl, -⟩ := hO6.reads
          clear hO6 hK6 hK K HF3 HO3 HK3 HR4 HR5 HN hap hbelow
          try simp only [Act.put, List.setIfInBounds_toArray, List.set_cons_zero, List.set_cons_succ]
          refine held_read (i := 6) (o := { dst := some 40, op := Op.fieldAddr 98 (Operand.tmp 5) 4, type := 0, pos := "hand.go:81", after := #[{ on := 0, ground := Ground.phase }, { on := 1, ground := Ground.phase }, { on := 2, ground := Ground.phase }, { on := 3, ground := Ground.phase }, { on := 4, ground := Ground.phase }, { on := 5, ground := Ground.phase }], guard := none }) (v := ?_) rfl (by kernel_rfl) (by kernel_rfl) (by kernel_rfl) (fun _ _ _ h => h) (by rfl) trivial ?_ ?_
          rotate_left
          · (intro x hx; go_simp; try with_reducible rfl)
          try simp only [Act.put, List.setIfInBounds_toArray, List.set_cons_zero, List.set_cons_succ]
          refine held_call (i := 7) (o := { dst := none, op := Op.store 96 (Operand.tmp 40) (Operand.tmp 39), type := 0, pos := "hand.go:81", after := #[{ on := 6, ground := Ground.data }, { on := 5, ground := Ground.data }, { on := 5, ground := Ground.chain }, { on := 0, ground := Ground.phase }, { on := 1, ground := Ground.phase }, { on := 2, ground := Ground.phase }, { on := 3, ground := Ground.phase }, { on := 4, ground := Ground.phase }, { on := 5, ground := Ground.phase }], guard := none }) rfl (by kernel_rfl) (by rfl) (fun K hK => ?_)
          have c12 := (thirteen HR56.out).h12
          have f12 := (thirteen HR56.out).f12
          try dsimp only at c12
          go_simp
          refine hK.out _ _ trivial ?_
          clear hK K c12 f12
          try simp only [Act.put, List.setIfInBounds_toArray, List.set_cons_zero, List.set_cons_succ]
          refine wpAnyH_done (by kernel_rfl) ?_ _
          go_wp2_with fail
          exact ⟨pred_round hzl h0 HL.out HV.out HS.out HO6.out HF6.out HK6.out HR46.out HR56.out hlt, by simp [intOf]; omega⟩
        · skip
          go_simp
          refine (feedvalue_any _ (by omega) HF3.out).mono ?_
          rintro e wv ⟨vk, vn, vx, vs, vb, hv1, hv2, hv3, hv4, rfl, hF4, hK4⟩
          replace HO3 := Lib.hid (HO3.out.kept hK4 (ownw_apart HO3.out (by omega)))
          replace HK3 := Lib.hid (HK3.out.then hK4)
          replace HR4 := Lib.hid (hK4.row HR4.out (by show ¬ w.heap.size = b; omega))
          replace HR5 := Lib.hid (hK4.row HR5.out (by show ¬ w.heap.size + 1 = b; omega))
          replace HF3 := Lib.hid hF4
          have HS := Lib.hid (Pd.right_small hv1 hv2 hv3 hv4)
          have HV := Lib.hid hv4
          refine hK.out _ _ trivial ?_
          clear hK K hF4 hK4 hv1 hv2 hv3 hv4
          try simp only [Act.put, List.setIfInBounds_toArray, List.set_cons_zero, List.set_cons_succ]
          refine held_two (i := 1) (j := 4) (o := { dst := some 35, op := Op.load 96 (Operand.tmp 34), type := 96, pos := "hand.go:81", after := #[{ on := 0, ground := Ground.data }], guard := none }) (p := { dst := some 38, op := Op.buildSlice 96 1 #[(0, Operand.tmp 37)], type := 96, pos := "hand.go:81", after := #[{ on := 3, ground := Ground.data }], guard := none }) rfl rfl (by kernel_rfl) (by rfl) (by rfl) (fun K hK => ?_) (fun K hK => ?_)
          · skip
            have c12 := (thirteen HR5.out).h12
            try dsimp only at c12
            go_simp
            refine hK.out _ _ trivial ?_
            clear hK K c12
            try simp only [Act.put, List.setIfInBounds_toArray, List.set_cons_zero, List.set_cons_succ]
            refine held_call (i := 4) (o := { dst := some 38, op := Op.buildSlice 96 1 #[(0, Operand.tmp 37)], type := 96, pos := "hand.go:81", after := #[{ on := 3, ground := Ground.data }], guard := none }) rfl (by kernel_rfl) (by rfl) (fun K hK => ?_)
            go_simp
            have hn := one_new wv (.cells #[.int .i64 vk, .int .i64 vn, .float .f64 vx, .string vs, .bool vb] 64)
            refine hK.out _ _ trivial ?_
            replace HO3 := Lib.hid (HO3.out.later hn)
            replace HK3 := Lib.hid (HK3.out.then (Kept.ofBelow hn))
            replace HR4 := Lib.hid (below_rw hn HR4.out)
            replace HR5 := Lib.hid (below_rw hn HR5.out)
            replace HF3 := Lib.hid (HF3.out.below hn)
            have HN := Lib.hid (new_val wv ⟨vk, vn, vx, vs, vb⟩)
            clear hn hK K
            try dsimp only [vbox] at HN
            generalize wv.alloc (.cells #[.int .i64 vk, .int .i64 vn, .float .f64 vx, .string vs, .bool vb] 64) = w4 at HO3 HK3 HR4 HR5 HF3 HN ⊢
            try simp only [Act.put, List.setIfInBounds_toArray, List.set_cons_zero, List.set_cons_succ]
            refine held_call (i := 5) (o := { dst := some 39, op := Op.call { callee := Callee.builtin Builtin.append, args := #[Operand.tmp 35, Operand.tmp 38], argTypes := #[96, 96] }, type := 96, pos := "hand.go:81", after := #[{ on := 1, ground := Ground.data }, { on := 4, ground := Ground.data }, { on := 3, ground := Ground.chain }], guard := none }) rfl (by kernel_rfl) (by rfl) (fun K hK => ?_)
            refine step_ownw (k := 5) _ _ 96 rfl Tryz.underlying96 val_info rfl (by decide) (w.heap.size + 2) _ _ _ rfl HO3.out _ 1 1 rfl (fun h => by cases h) (vflat [⟨vk, vn, vx, vs, vb⟩]) HN.out (vflat_one _) (by omega) (by decide) ?_
            intro v6 w6 hO6 hK6
            have hap := ownw_apart (b := b) HO3.out (by omega)
            have hbelow := ownw_base HO3.out
            refine hK.out _ _ trivial ?_
            have HK6 := Lib.hid (HK3.out.trans hK6 (fun i hi h => absurd (hbelow i h) (by omega)))
            have HR46 := Lib.hid (hK6.row HR4.out (fun h => absurd (hbelow _ h) (by omega)))
            have HR56 := Lib.hid (hK6.row HR5.out (fun h => absurd (hbelow _ h) (by omega)))
            have HF6 := Lib.hid (HF3.out.kept hK6 (fun h => hap _ h rfl) (fun i hi h => absurd (hbelow i h) (by have := HF3.out.1; omega)))
            have HO6 := Lib.hid hO6
            obtain ⟨A6, c6, rfl, -⟩ := hO6.reads
            clear hO6 hK6 hK K HF3 HO3 HK3 HR4 HR5 HN hap hbelow
            try simp only [Act.put, List.setIfInBounds_toArray, List.set_cons_zero, List.set_cons_succ]
            refine held_read (i := 6) (o := { dst := some 40, op := Op.fieldAddr 98 (Operand.tmp 5) 4, type := 0, pos := "hand.go:81", after := #[{ on := 0, ground := Ground.phase }, { on := 1, ground := Ground.phase }, { on := 2, ground := Ground.phase }, { on := 3, ground := Ground.phase }, { on := 4, ground := Ground.phase }, { on := 5, ground := Ground.phase }], guard := none }) (v := ?_) rfl (by kernel_rfl) (by kernel_rfl) (by kernel_rfl) (fun _ _ _ h => h) (by rfl) trivial ?_ ?_
            rotate_left
            · (intro x hx; go_simp; try with_reducible rfl)
            try simp only [Act.put, List.setIfInBounds_toArray, List.set_cons_zero, List.set_cons_succ]
            refine held_call (i := 7) (o := { dst := none, op := Op.store 96 (Operand.tmp 40) (Operand.tmp 39), type := 0, pos := "hand.go:81", after := #[{ on := 6, ground := Ground.data }, { on := 5, ground := Ground.data }, { on := 5, ground := Ground.chain }, { on := 0, ground := Ground.phase }, { on := 1, ground := Ground.phase }, { on := 2, ground := Ground.phase }, { on := 3, ground := Ground.phase }, { on := 4, ground := Ground.phase }, { on := 5, ground := Ground.phase }], guard := none }) rfl (by kernel_rfl) (by rfl) (fun K hK => ?_)
            have c12 := (thirteen HR56.out).h12
            have f12 := (thirteen HR56.out).f12
            try dsimp only at c12
            go_simp
            refine hK.out _ _ trivial ?_
            clear hK K c12 f12
            try simp only [Act.put, List.setIfInBounds_toArray, List.set_cons_zero, List.set_cons_succ]
            refine wpAnyH_done (by kernel_rfl) ?_ _
            go_wp2_with fail
            exact ⟨pred_round hzl h0 HL.out HV.out HS.out HO6.out HF6.out HK6.out HR46.out HR56.out hlt, by simp [intOf]; omega⟩
          · skip
            go_simp
            have hn := one_new wv (.cells #[.int .i64 vk, .int .i64 vn, .float .f64 vx, .string vs, .bool vb] 64)
            refine hK.out _ _ trivial ?_
            replace HO3 := Lib.hid (HO3.out.later hn)
            replace HK3 := Lib.hid (HK3.out.then (Kept.ofBelow hn))
            replace HR4 := Lib.hid (below_rw hn HR4.out)
            replace HR5 := Lib.hid (below_rw hn HR5.out)
            replace HF3 := Lib.hid (HF3.out.below hn)
            have HN := Lib.hid (new_val wv ⟨vk, vn, vx, vs, vb⟩)
            clear hn hK K
            try dsimp only [vbox] at HN
            generalize wv.alloc (.cells #[.int .i64 vk, .int .i64 vn, .float .f64 vx, .string vs, .bool vb] 64) = w4 at HO3 HK3 HR4 HR5 HF3 HN ⊢
            try simp only [Act.put, List.setIfInBounds_toArray, List.set_cons_zero, List.set_cons_succ]
            refine held_call (i := 1) (o := { dst := some 35, op := Op.load 96 (Operand.tmp 34), type := 96, pos := "hand.go:81", after := #[{ on := 0, ground := Ground.data }], guard := none }) rfl (by kernel_rfl) (by rfl) (fun K hK => ?_)
            have c12 := (thirteen HR5.out).h12
            try dsimp only at c12
            go_simp
            refine hK.out _ _ trivial ?_
            clear hK K c12
            try simp only [Act.put, List.setIfInBounds_toArray, List.set_cons_zero, List.set_cons_succ]
            refine held_call (i := 5) (o := { dst := some 39, op := Op.call { callee := Callee.builtin Builtin.append, args := #[Operand.tmp 35, Operand.tmp 38], argTypes := #[96, 96] }, type := 96, pos := "hand.go:81", after := #[{ on := 1, ground := Ground.data }, { on := 4, ground := Ground.data }, { on := 3, ground := Ground.chain }], guard := none }) rfl (by kernel_rfl) (by rfl) (fun K hK => ?_)
            refine step_ownw (k := 5) _ _ 96 rfl Tryz.underlying96 val_info rfl (by decide) (w.heap.size + 2) _ _ _ rfl HO3.out _ 1 1 rfl (fun h => by cases h) (vflat [⟨vk, vn, vx, vs, vb⟩]) HN.out (vflat_one _) (by omega) (by decide) ?_
            intro v6 w6 hO6 hK6
            have hap := ownw_apart (b := b) HO3.out (by omega)
            have hbelow := ownw_base HO3.out
            refine hK.out _ _ trivial ?_
            have HK6 := Lib.hid (HK3.out.trans hK6 (fun i hi h => absurd (hbelow i h) (by omega)))
            have HR46 := Lib.hid (hK6.row HR4.out (fun h => absurd (hbelow _ h) (by omega)))
            have HR56 := Lib.hid (hK6.row HR5.out (fun h => absurd (hbelow _ h) (by omega)))
            have HF6 := Lib.hid (HF3.out.kept hK6 (fun h => hap _ h rfl) (fun i hi h => absurd (hbelow i h) (by have := HF3.out.1; omega)))
            have HO6 := Lib.hid hO6
            obtain ⟨A6, c6, rfl, -⟩ := hO6.reads
            clear hO6 hK6 hK K HF3 HO3 HK3 HR4 HR5 HN hap hbelow
            try simp only [Act.put, List.setIfInBounds_toArray, List.set_cons_zero, List.set_cons_succ]
            refine held_read (i := 6) (o := { dst := some 40, op := Op.fieldAddr 98 (Operand.tmp 5) 4, type := 0, pos := "hand.go:81", after := #[{ on := 0, ground := Ground.phase }, { on := 1, ground := Ground.phase }, { on := 2, ground := Ground.phase }, { on := 3, ground := Ground.phase }, { on := 4, ground := Ground.phase }, { on := 5, ground := Ground.phase }], guard := none }) (v := ?_) rfl (by kernel_rfl) (by kernel_rfl) (by kernel_rfl) (fun _ _ _ h => h) (by rfl) trivial ?_ ?_
            rotate_left
            · (intro x hx; go_simp; try with_reducible rfl)
            try simp only [Act.put, List.setIfInBounds_toArray, List.set_cons_zero, List.set_cons_succ]
            refine held_call (i := 7) (o := { dst := none, op := Op.store 96 (Operand.tmp 40) (Operand.tmp 39), type := 0, pos := "hand.go:81", after := #[{ on := 6, ground := Ground.data }, { on := 5, ground := Ground.data }, { on := 5, ground := Ground.chain }, { on := 0, ground := Ground.phase }, { on := 1, ground := Ground.phase }, { on := 2, ground := Ground.phase }, { on := 3, ground := Ground.phase }, { on := 4, ground := Ground.phase }, { on := 5, ground := Ground.phase }], guard := none }) rfl (by kernel_rfl) (by rfl) (fun K hK => ?_)
            have c12 := (thirteen HR56.out).h12
            have f12 := (thirteen HR56.out).f12
            try dsimp only at c12
            go_simp
            refine hK.out _ _ trivial ?_
            clear hK K c12 f12
            try simp only [Act.put, List.setIfInBounds_toArray, List.set_cons_zero, List.set_cons_succ]
            refine wpAnyH_done (by kernel_rfl) ?_ _
            go_wp2_with fail
            exact ⟨pred_round hzl h0 HL.out HV.out HS.out HO6.out HF6.out HK6.out HR46.out HR56.out hlt, by simp [intOf]; omega⟩
      · have T5 := thirteen HR5.out
        obtain ⟨c0, c1, c2, c3, c4, c5, c6, c7, c8, c9, c10, c11, c12, f0, f1, f2, f3, f4, f5, f6, f7, f8, f9, f10, f11, f12⟩ := T5
        obtain ⟨d0, d1, d2, d3, d4, d5, d6, d7, d8, d9, d10, d11, d12, e0, e1, e2, e3, e4, e5, e6, e7, e8, e9, e10, e11, e12⟩ := thirteen HR4.out
        dsimp only at c0 c1 c2 c3 c4 c5 c6 c7 c8 c9 c10 c11 c12 d0 d1 d2 d3 d4 d5 d6 d7 d8 d9 d10 d11 d12
        go_wp2_with fail
        refine bodyPost_ret (results_cell_row rfl _ _ _ _ _ _ _ rfl (row13 _ _ _ _ _ _ _ _ _ _ _ _ _ HR4.out) Tryz.underlying98 rfl (by kernel_rfl)) rfl ?_
        exact pred_ends (p := ⟨nm, 10, Pd.zv, Pd.zv, l⟩) HR4.out (HF3.out.more (by omega)) HK3.out hlt (Pd.fed_in nm (by omega) (by omega) HL.out) (ownw_sub HO3.out (by omega))
  have ht27 : t = 8 ∨ (2 ≤ t ∧ t ≤ 7) := by omega
  go_wp2_with fail
  refine (feedvalue_any (B := B) (a := a + 1) _ (by omega) HF2.out).mono ?_
  rintro e w3 ⟨vk, vn, vx, vs, vb, hv1, hv2, hv3, hv4, rfl, hF3, hK3⟩
  have HF3 := Lib.hid hF3
  have HK3 := Lib.hid (HK2.out.then hK3)
  have HR4 := Lib.hid (hK3.row HR4.out (by show ¬ w.heap.size = b; omega))
  have HR5 := Lib.hid (hK3.row HR5.out (by show ¬ w.heap.size + 1 = b; omega))
  have HV := Lib.hid hv4
  have HS := Lib.hid (Pd.right_small hv1 hv2 hv3 hv4)
  clear c0 c1 c2 c3 c4 c5 c6 c7 c8 c9 c10 c11 c12 f0 f1 f2 f3 f4 f5 f6 f7 f8 f9 f10 f11 f12 d0 d1 d2 d3 d4 d5 d6 d7 d8 d9 d10 d11 d12 e0 e1 e2 e3 e4 e5 e6 e7 e8 e9 e10 e11 e12 hF3 hK3 HF2 HK2 hv1 hv2 hv3 hv4
  have T5 := thirteen HR5.out
  obtain ⟨c2, c3, c4, c5, c6, f2, f3, f4, f5, f6⟩ : _ ∧ _ ∧ _ ∧ _ ∧ _ ∧ _ ∧ _ ∧ _ ∧ _ ∧ _ := ⟨T5.h2, T5.h3, T5.h4, T5.h5, T5.h6, T5.f2, T5.f3, T5.f4, T5.f5, T5.f6⟩
  clear T5
  go_upto_region 15 with fail
  clear c2 c3 c4 c5 c6 f2 f3 f4 f5 f6
  have kV := keptV w3 (w.heap.size + 1) (.int .i64 vk) (.int .i64 vn) (.float .f64 vx) (.string vs) (.bool vb)
  have HR4 := Lib.hid (kV.row HR4.out (by show ¬ w.heap.size = w.heap.size + 1; omega))
  have HR5 := Lib.hid (turnV HR5.out ⟨vk, vn, vx, vs, vb⟩)
  have HF4 := Lib.hid (HF3.out.kept kV (by show ¬ b = w.heap.size + 1; omega) (by intro i hi e; have := HF3.out.1; omega))
  have HK4 := Lib.hid (HK3.out.trans kV (fun i hi e => by omega))
  clear kV HF3 HK3
  dsimp only [setV] at HR4 HR5 HF4 HK4
  generalize (((((w3.setCell ⟨w.heap.size + 1, 2, none⟩ _).setCell ⟨w.heap.size + 1, 3, none⟩ _).setCell ⟨w.heap.size + 1, 4, none⟩ _).setCell ⟨w.heap.size + 1, 5, none⟩ _).setCell ⟨w.heap.size + 1, 6, none⟩ _) = w4 at HR4 HR5 HF4 HK4 ⊢
  obtain ⟨c0, c1, c2, c3, c4, c5, c6, c7, c8, c9, c10, c11, c12, f0, f1, f2, f3, f4, f5, f6, f7, f8, f9, f10, f11, f12⟩ := thirteen HR5.out
  dsimp only at c0 c1 c2 c3 c4 c5 c6 c7 c8 c9 c10 c11 c12
  rcases ht27 with rfl | ⟨h2, h7⟩
  · clear t1 t9 t10
    go_wp2_with fail
    refine (feedvalue_any (B := B) (a := a + 1 + 2) _ (by omega) HF4.out).mono ?_
    rintro e w5 ⟨uk, un, ux, us, ub, hv1, hv2, hv3, hv4, rfl, hF5, hK5⟩
    have HF5 := Lib.hid hF5
    have HK5 := Lib.hid (HK4.out.then hK5)
    have HR4 := Lib.hid (hK5.row HR4.out (by show ¬ w.heap.size = b; omega))
    have HR5 := Lib.hid (hK5.row HR5.out (by show ¬ w.heap.size + 1 = b; omega))
    have HU := Lib.hid hv4
    have HT := Lib.hid (Pd.right_small hv1 hv2 hv3 hv4)
    clear c0 c1 c2 c3 c4 c5 c6 c7 c8 c9 c10 c11 c12 f0 f1 f2 f3 f4 f5 f6 f7 f8 f9 f10 f11 f12 hF5 hK5 HF4 HK4 hv1 hv2 hv3 hv4
    have T5 := thirteen HR5.out
    obtain ⟨c2, c3, c4, c5, c6, f2, f3, f4, f5, f6⟩ : _ ∧ _ ∧ _ ∧ _ ∧ _ ∧ _ ∧ _ ∧ _ ∧ _ ∧ _ := ⟨T5.h7, T5.h8, T5.h9, T5.h10, T5.h11, T5.f7, T5.f8, T5.f9, T5.f10, T5.f11⟩
    clear T5
    go_upto_region 17 with fail
    clear c2 c3 c4 c5 c6 f2 f3 f4 f5 f6
    have kV := keptW w5 (w.heap.size + 1) (.int .i64 uk) (.int .i64 un) (.float .f64 ux) (.string us) (.bool ub)
    have HR4 := Lib.hid (kV.row HR4.out (by show ¬ w.heap.size = w.heap.size + 1; omega))
    have HR5 := Lib.hid (turnW HR5.out ⟨uk, un, ux, us, ub⟩)
    have HF6 := Lib.hid (HF5.out.kept kV (by show ¬ b = w.heap.size + 1; omega) (by intro i hi e; have := HF5.out.1; omega))
    have HK6 := Lib.hid (HK5.out.trans kV (fun i hi e => by omega))
    clear kV HF5 HK5
    dsimp only [setW] at HR4 HR5 HF6 HK6
    generalize (((((w5.setCell ⟨w.heap.size + 1, 7, none⟩ _).setCell ⟨w.heap.size + 1, 8, none⟩ _).setCell ⟨w.heap.size + 1, 9, none⟩ _).setCell ⟨w.heap.size + 1, 10, none⟩ _).setCell ⟨w.heap.size + 1, 11, none⟩ _) = w6 at HR4 HR5 HF6 HK6 ⊢
    obtain ⟨c0, c1, c2, c3, c4, c5, c6, c7, c8, c9, c10, c11, c12, f0, f1, f2, f3, f4, f5, f6, f7, f8, f9, f10, f11, f12⟩ := thirteen HR5.out
    obtain ⟨d0, d1, d2, d3, d4, d5, d6, d7, d8, d9, d10, d11, d12, e0, e1, e2, e3, e4, e5, e6, e7, e8, e9, e10, e11, e12⟩ := thirteen HR4.out
    dsimp only at c0 c1 c2 c3 c4 c5 c6 c7 c8 c9 c10 c11 c12 d0 d1 d2 d3 d4 d5 d6 d7 d8 d9 d10 d11 d12
    go_wp2_with fail
    refine bodyPost_ret (results_cell_row rfl _ _ _ _ _ _ _ rfl (row13 _ _ _ _ _ _ _ _ _ _ _ _ _ HR4.out) Tryz.underlying98 rfl (by kernel_rfl)) rfl ?_
    exact pred_ends (p := ⟨nm, 8, ⟨vk, vn, vx, vs, vb⟩, ⟨uk, un, ux, us, ub⟩, []⟩) HR4.out (HF6.out.more (by omega)) HK6.out hlt (Pd.fed_range nm HV.out HS.out HU.out HT.out) (OwnW.nil _ _ _ (by have := row_lt HR5.out; omega))
  · have t8 : ¬ t = 8 := by omega
    obtain ⟨d0, d1, d2, d3, d4, d5, d6, d7, d8, d9, d10, d11, d12, e0, e1, e2, e3, e4, e5, e6, e7, e8, e9, e10, e11, e12⟩ := thirteen HR4.out
    dsimp only at d0 d1 d2 d3 d4 d5 d6 d7 d8 d9 d10 d11 d12
    go_wp2_with fail
    refine bodyPost_ret (results_cell_row rfl _ _ _ _ _ _ _ rfl (row13 _ _ _ _ _ _ _ _ _ _ _ _ _ HR4.out) Tryz.underlying98 rfl (by kernel_rfl)) rfl ?_
    exact pred_ends (p := ⟨nm, t, ⟨vk, vn, vx, vs, vb⟩, Pd.zv, []⟩) HR4.out (HF4.out.more (by omega)) HK4.out hlt (Pd.fed_v nm h2 h7 HV.out HS.out) (OwnW.nil _ _ _ (by have := row_lt HR5.out; omega))
end Go.Proofs.YtgenmebmdpnjhaaGreat
