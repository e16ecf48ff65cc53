
/- FilterOwn: the walk. -/
import Derived.Test.YtfbfbajccphkoaaFilters
import Derived.Test.YtfbfbajccphkoaaRefFil
import Derived.Test.YtfbfbajccphkoaaLater
namespace Go.Proofs.Ytfbfbajccphkoaa
open Go.RowKit
set_option linter.unusedVariables false

/-- The last test that FilterOwn adds. -/
abbrev Pd.lastP (v : Val) : Prd := ⟨⟨#[122]⟩, 10, ⟨0, 0, 0, ⟨#[]⟩, false⟩, ⟨0, 0, 0, ⟨#[]⟩, false⟩, [⟨1, 7, 0, ⟨#[]⟩, false⟩, v]⟩
theorem Pd.last_fits {v : Val} (h : Fit v) : Pd.Fits (Pd.lastP v) := ⟨by show (1 : Nat) ≤ 9223372036854775807; decide, Pd.small0.fit, Pd.small0.fit, fun a ha => by
  rcases List.mem_cons.1 ha with rfl | ha
  · exact ⟨by decide, by decide, by decide⟩
  · rw [List.mem_singleton.1 ha]; exact h⟩
theorem two_own (w : World) (vk vn : Int) (vx : Nat) (vs : ByteArray) (vb : Bool) : OwnV w.heap.size (w.alloc (.cells #[.int .i64 1, .int .i64 7, .float .f64 0, .string ⟨#[]⟩, .bool false, .int .i64 vk, .int .i64 vn, .float .f64 vx, .string vs, .bool vb] 24)) (.slice (some ⟨w.heap.size, 0, none⟩) 2 2) [⟨1, 7, 0, ⟨#[]⟩, false⟩, ⟨vk, vn, vx, vs, vb⟩] :=
  OwnW.of_row (k := 5) (B := w.heap.size) (n := 2) (xs := [.int .i64 1, .int .i64 7, .float .f64 0, .string ⟨#[]⟩, .bool false, .int .i64 vk, .int .i64 vn, .float .f64 vx, .string vs, .bool vb]) (e := 24) (Nat.le_refl _) (heap_alloc_new w _) rfl (by unfold maxLen; omega)
theorem one_of {M : List Ft} {a : List Prd} (h : M.map Fi.tests = [a]) : ∃ m, M = [m] ∧ Fi.tests m = a := by
  match M, h with
  | [m], h => simp only [List.map_cons, List.map_nil, List.cons.injEq, and_true] at h; exact ⟨m, rfl, h⟩
theorem tests_len {f g : Ft} (h : Fi.tests f = Fi.tests g) : f.l.length = g.l.length := by
  have := congrArg List.length h
  simpa [Fi.tests] using this

theorem row_cell {w : World} {g q : Nat} {cur : Array Value} {t : TypeId} {u : Value} (hg : w.heap[g]? = some (.cells cur t (0, 0))) (h : cur.toList[q]? = some u) : w.cell? ⟨g, q, none⟩ = some u := by
  have := cells_row (cs := cur.toList) (by rw [hg]) q u h
  rwa [Nat.zero_add] at this
theorem row_frozen {w : World} {g q : Nat} {cur : Array Value} {t : TypeId} (hg : w.heap[g]? = some (.cells cur t (0, 0))) (h : q < cur.size) : w.frozen? ⟨g, q, none⟩ = false := by
  have _ := h
  simp [World.frozen?, hg]
theorem last_cells {N : Nat} {w : World} {Z : Ft} {ts : List Prd} {v : Val} (h : Owned N w Z) (ht : Fi.tests Z = ts ++ [Pd.lastP v]) :
    ∃ (gz gs c : Nat), Z.A = some ⟨gz, 0, none⟩ ∧ Z.in_ gz ∧ Z.in_ gs ∧ N ≤ gz ∧ N ≤ gs ∧ gz ≠ gs ∧ gz < w.heap.size ∧ gs < w.heap.size ∧ Z.l.length ≤ Z.c ∧ 2 ≤ c ∧
      (∀ j, j < Z.l.length → ∃ u, w.cell? ⟨gz, j * 13, none⟩ = some u ∧ w.frozen? ⟨gz, j * 13, none⟩ = false) ∧
      w.cell? ⟨gz, (Z.l.length - 1) * 13 + 12, none⟩ = some (.slice (some ⟨gs, 0, none⟩) 2 c) ∧
      (∀ q, q < 2 → ∃ u, w.cell? ⟨gs, q * 5 + 1, none⟩ = some u ∧ w.frozen? ⟨gs, q * 5 + 1, none⟩ = false) := by
  obtain ⟨A, cz, l⟩ := Z
  have hl : l.length = ts.length + 1 := by have := congrArg List.length ht; simpa [Fi.tests] using this
  obtain ⟨x, hx⟩ : ∃ x, l[ts.length]? = some x := ⟨_, List.getElem?_eq_getElem (by omega)⟩
  have hxp : x.p = Pd.lastP v := by
    have h1 : (Fi.tests ⟨A, cz, l⟩)[ts.length]? = some x.p := by unfold Fi.tests; rw [List.getElem?_map, hx]; rfl
    rw [ht, List.getElem?_append_right (Nat.le_refl _), Nat.sub_self] at h1
    exact (Option.some.inj h1).symm
  have hxm : x ∈ l := List.mem_of_getElem? hx
  have hsx := h.sets x hxm
  rcases h.row.1.2 with ⟨e, h0⟩ | ⟨gz, cap, cur, e, hb, hg, hc, hm, hsz, htk⟩
  · have h00 : l.length = 0 := h0
    omega
  unfold Ft.v at e
  cases e
  rcases hsx.1.2 with ⟨e, h0⟩ | ⟨gs, cs, cus, e, hbs, hgs, hcs, hms, hszs, htks⟩
  · rw [hxp] at h0; cases h0
  obtain ⟨px, Ax, cx⟩ := x
  dsimp only at hxp
  subst hxp
  cases e
  have hz := (Array.getElem?_eq_some_iff.1 hg).1
  have hs := (Array.getElem?_eq_some_iff.1 hgs).1
  refine ⟨gz, gs, cx, rfl, .inl rfl, .inr ⟨_, hxm, rfl⟩, hb, hbs, fun e => ?_, hz, hs, hc, hcs, fun j hj => ?_, ?_, fun q hq => ?_⟩
  · rw [e, hgs] at hg; cases hg
  · have hlt : j * 13 < cur.toList.length := by rw [Array.length_toList, hsz]; have : l.length ≤ cz := hc; have : j < l.length := hj; omega
    exact ⟨_, row_cell hg (List.getElem?_eq_getElem hlt), row_frozen hg (by rw [Array.length_toList] at hlt; exact hlt)⟩
  · have e1 : (pflat l)[ts.length * 13 + 12]? = some (.slice (some ⟨gs, 0, none⟩) 2 cx) := by
      unfold pflat
      rw [flat_get _ Pt.cells_len l ts.length 12 _ hx (by decide)]
      rfl
    have e2 : cur.toList[ts.length * 13 + 12]? = some (.slice (some ⟨gs, 0, none⟩) 2 cx) := by
      rw [← htk, List.getElem?_take] at e1
      split at e1
      · exact e1
      · cases e1
    have e3 : l.length - 1 = ts.length := by omega
    show w.cell? ⟨gz, (l.length - 1) * 13 + 12, none⟩ = _
    rw [e3]
    exact row_cell hg e2
  · have hlt : q * 5 + 1 < cus.toList.length := by have hz2 : cus.size = cx * 5 := hszs; rw [Array.length_toList, hz2]; have : 2 ≤ cx := hcs; omega
    exact ⟨_, row_cell hgs (List.getElem?_eq_getElem hlt), row_frozen hgs (by rw [Array.length_toList] at hlt; exact hlt)⟩

theorem Fi.sameT_self : ∀ l : List Prd, Fi.sameT l l = true
  | [] => rfl
  | a :: l => by
    have h : Pd.same a a = true := by unfold Pd.same Pd.sameT; rw [Vl.same_self, Vl.same_self, Pd.sames_self]; simp
    rw [Fi.sameT, h, Fi.sameT_self l]; rfl
theorem pair_at0 (A B : Option Addr) (n c k d : Nat) (w : World) : (Instr.index 54 (.agg #[.slice A n c, .slice B k d]) (.int .i64 0)).run Try.prog w = .ok (.slice A n c) w := by kernel_rfl
theorem pair_at1 (A B : Option Addr) (n c k d : Nat) (w : World) : (Instr.index 54 (.agg #[.slice A n c, .slice B k d]) (.int .i64 1)).run Try.prog w = .ok (.slice B k d) w := by kernel_rfl
theorem Owned.keeps {N : Nat} {S : Nat → Prop} {w w' : World} {f : Ft} (h : Owned N w f) (k : Kept S w w') (hS : ∀ i, S i → i < N) : Owned N w' f :=
  ⟨h.row.kept k (fun i hi e => by have := ownw_base h.row i hi; have := hS i e; omega), fun x hx => (h.sets x hx).kept k (fun i hi e => by have := ownw_base (h.sets x hx) i hi; have := hS i e; omega)⟩
/-- What stands while the copies are turned. -/
structure Rd (w : World) (N1 N2 N3 : Nat) (X Y R W : Ft) (k : Nat) (wx : World) : Prop where
  x : IsFt wx X
  was : IsFt wx W
  y : k = 0 → Owned N1 wx Y
  r : k ≤ 1 → Owned N2 wx R
  below : Below w.heap.size w wx
  size : N3 ≤ wx.heap.size
structure Rs3 (w : World) (N1 N2 N3 : Nat) (X W : Ft) : Prop where
  x : ∀ i, X.in_ i → i < N1
  was : ∀ i, W.in_ i → N3 ≤ i
  o1 : w.heap.size ≤ N1
  o2 : N1 ≤ N2
  o3 : N2 ≤ N3
theorem Rd.later {w wx wy : World} {N1 N2 N3 : Nat} {X Y R W : Ft} {k : Nat} (h : Rd w N1 N2 N3 X Y R W k wx) (t : Below wx.heap.size wx wy) : Rd w N1 N2 N3 X Y R W k wy :=
  ⟨h.x.later t, h.was.later t, fun e => (h.y e).later t, fun e => (h.r e).later t, below_then h.below t, Nat.le_trans h.size t.size⟩
theorem Rd.turn {S : Nat → Prop} {w wx wy : World} {N1 N2 N3 : Nat} {X Y R W : Ft} {k : Nat} (h : Rd w N1 N2 N3 X Y R W k wx) (q : Rs3 w N1 N2 N3 X W) (t : Kept S wx wy) (h0 : k = 0 → ∀ i, S i → N1 ≤ i ∧ i < N2) (h1 : k = 1 → ∀ i, S i → N2 ≤ i ∧ i < N3) (hk : k ≤ 1) : Rd w N1 N2 N3 X Y R W (k + 1) wy := by
  have o1 := q.o1
  have o2 := q.o2
  have o3 := q.o3
  have hS : ∀ i, S i → N1 ≤ i ∧ i < N3 := by
    intro i hi
    rcases (show k = 0 ∨ k = 1 by omega) with e | e
    · have := h0 e i hi; omega
    · have := h1 e i hi; omega
  refine ⟨h.x.kept t (fun i hi e => by have := q.x i hi; have := hS i e; omega), h.was.kept t (fun i hi e => by have := q.was i hi; have := hS i e; omega), fun e => by omega, fun e => ?_, h.below.trans (t.below h.below.size (fun i hi e => by have := hS i e; omega)), Nat.le_trans h.size t.size⟩
  exact (h.r (by omega)).keeps t (fun i hi => by have := h0 (by omega) i hi; omega)

set_option pp.deepTerms true in
set_option pp.maxSteps 10000000 in
set_option maxRecDepth 100000 in
set_option maxHeartbeats 16000000 in
theorem fown_walk (L : Option Addr) (len cap : Nat) (at_ : Int) (w : World) (hd : Draws w.heap.size w L len) :
    Calls Try.prog 6 #[.slice L len cap, .int .i64 at_] w fun e w' => e = .returned (.bool true) ∧ Below w.heap.size w w' := by
  have hF0 := Lib.hid (feed_new (cap := cap) hd 45)
  have HB0 := Lib.hid (one_new w (.cells #[.slice L len cap, .int .i64 0] 45))
  clear hd
  have hst := store_float
  go_enter Try.func6, Try.ntmps6
  go_wp2_with fail
  refine (feedfilter_any (B := w.heap.size) (a := 0) _ (by omega) hF0.out).mono ?_
  rintro e w1 ⟨F, rfl, hfine, hown, hF, hK⟩
  have HB1 : Hid (Below w.heap.size w w1) := HB0.out.trans (hK.below HB0.out.size (by intro i hi e; omega))
  have HFine := Lib.hid hfine
  have HO := Lib.hid hown
  have HF1 := Lib.hid hF
  have hgt : w.heap.size < (w.alloc (.cells #[.slice L len cap, .int .i64 0] 45)).heap.size := by simp
  have hFl := hfine.few
  clear hF0 HB0 hfine hown hF hK
  generalize (w.alloc (.cells #[.slice L len cap, .int .i64 0] 45)).heap.size = Bx at HO hgt
  go_wp2_with fail
  refine (vint_any 7 _).mono ?_
  rintro e w2 ⟨rfl, hb⟩
  have HB2 := Lib.hid (below_then HB1.out hb)
  have HO2 := Lib.hid (HO.out.later hb)
  have HF2 := Lib.hid (HF1.out.below hb)
  clear hb HB1 HO HF1
  go_wp2_with fail
  refine (feedvalue_any (B := w.heap.size) (a := 34) _ (by omega) HF2.out).mono ?_
  rintro e w3 ⟨vk, vn, vx, vs, vb, h1, h2, h3, hr, rfl, -, hK⟩
  have HFit : Hid (Fit ⟨vk, vn, vx, vs, vb⟩) := (Pd.right_small (k := vk) (n := vn) (x := vx) (s := vs) (t := vb) h1 h2 h3 hr).fit
  have HB3 : Hid (Below w.heap.size w w3) := HB2.out.trans (hK.below HB2.out.size (by intro i hi e; omega))
  have HO3 := Lib.hid (HO2.out.fed hK hgt)
  clear h1 h2 h3 hr hK HB2 HO2 HF2
  have hB3 : Bx ≤ w3.heap.size := HO3.out.row.2
  have hS := two_own w3 vk vn vx vs vb
  have hn1 := one_new w3 (.cells #[.int .i64 1, .int .i64 7, .float .f64 0, .string ⟨#[]⟩, .bool false, .int .i64 vk, .int .i64 vn, .float .f64 vx, .string vs, .bool vb] 24)
  have hn2 := one_new (w3.alloc (.cells #[.int .i64 1, .int .i64 7, .float .f64 0, .string ⟨#[]⟩, .bool false, .int .i64 vk, .int .i64 vn, .float .f64 vx, .string vs, .bool vb] 24)) (Pt.box ⟨Pd.lastP ⟨vk, vn, vx, vs, vb⟩, some ⟨w3.heap.size, 0, none⟩, 2⟩)
  have hRs := new_pt (w3.alloc (.cells #[.int .i64 1, .int .i64 7, .float .f64 0, .string ⟨#[]⟩, .bool false, .int .i64 vk, .int .i64 vn, .float .f64 vx, .string vs, .bool vb] 24)) ⟨Pd.lastP ⟨vk, vn, vx, vs, vb⟩, some ⟨w3.heap.size, 0, none⟩, 2⟩
  rw [World.size_alloc] at hRs
  have HRs := Lib.hid hRs
  have HS : Hid (OwnS Bx _ ⟨Pd.lastP ⟨vk, vn, vx, vs, vb⟩, some ⟨w3.heap.size, 0, none⟩, 2⟩) := (ownw_sub hS hB3).later hn2
  have HB5 := Lib.hid (below_then (below_then HB3.out hn1) hn2)
  have HO5 := Lib.hid ((HO3.out.later hn1).later hn2)
  obtain ⟨FA, Fc, Fl⟩ := F
  dsimp only at HFine HO5 hFl ⊢
  have HFL : Hid (Fl.length + 1 ≤ 1000000) := (by omega : Fl.length + 1 ≤ 1000000)
  clear hS hn1 hn2 HB3 HO3 hRs
  go_upto_region 3 with (first | (at_builtin; refine wpList_ownw (k := 13) rfl _ _ 28 rfl Try.underlying28 prd_info rfl (by decide) Bx _ Fl.length (pflat Fl) rfl HO5.out.row _ 1 1 rfl (fun h => by cases h) (pflat [⟨Pd.lastP ⟨vk, vn, vx, vs, vb⟩, some ⟨w3.heap.size, 0, none⟩, 2⟩]) HRs.out (pflat_one _) HFL.out (by decide) ?_; intro v6 w6 hO6 hK6; have HO6 := Lib.hid hO6; have HK6 := Lib.hid hK6; clear hO6 hK6))
  have hB6 : Below w.heap.size w w6 := HB5.out.trans (HK6.out.below HB5.out.size (fun i hi e => by have := ownw_base HO5.out.row i e; omega))
  obtain ⟨X, rfl, hXt, hXo⟩ := HO5.out.push HS.out HO6.out HK6.out
  have HB6 := Lib.hid hB6
  clear HRs HS HB5 HO5 HFL HO6 HK6 hB6
  have hXfit : ∀ p, p ∈ Fi.tests X → Pd.Fits p := by
    rw [hXt]
    intro q hq
    rcases List.mem_append.1 hq with hq | hq
    · exact HFine.out.fits q hq
    · rw [List.mem_singleton.1 hq]; exact Pd.last_fits HFit.out
  have hXs : ∀ x, x ∈ X.l → x.p.set.length ≤ 1000 := by
    intro x hx
    have : x.p ∈ Fi.tests X := List.mem_map_of_mem hx
    rw [hXt] at this
    rcases List.mem_append.1 this with h | h
    · obtain ⟨y, hy, e⟩ := List.mem_map.1 h
      have := (HFine.out.fed y hy).2.few
      rw [← e]; omega
    · rw [List.mem_singleton.1 h]; show (2 : Nat) ≤ 1000; decide
  have hXl : X.l.length = Fl.length + 1 := by have := congrArg List.length hXt; simpa [Fi.tests] using this
  have hX5 : 1 ≤ X.l.length ∧ X.l.length ≤ 4 := by omega
  have HX := Lib.hid (hXo.is hXfit)
  have HXo := Lib.hid hXo
  have HXfit := Lib.hid hXfit
  have HXs := Lib.hid hXs
  have HXt : Hid (∃ ts, Fi.tests X = ts ++ [Pd.lastP ⟨vk, vn, vx, vs, vb⟩]) := ⟨_, hXt⟩
  clear hXt hXo hXfit hXs hXl HFine HFit hFl
  have HXlow : Hid (∀ i, X.in_ i → i < w6.heap.size) := by
    intro i hi
    rcases hi with hi | ⟨x, hx, hi⟩
    · exact ownw_lt HXo.out.row i hi
    · exact ownw_lt (HXo.out.sets x hx) i hi
  go_wp2_with fail
  refine (fcopy_any HX.out.ps (by omega) HXs.out).mono ?_
  rintro e w7 hp
  obtain ⟨Y, rfl, hYt, hYo, hb⟩ := hp.own
  have hYl := tests_len hYt
  have HYt := Lib.hid hYt
  have HY := Lib.hid hYo
  have HX7 := Lib.hid (HX.out.later hb)
  have HB6s := Lib.hid HB6.out.size
  have HB7 := Lib.hid (below_then HB6.out hb)
  clear hp hYt hYo hb HX HXo HB6
  dsimp only [Ft.v]
  have hfs : Fs (w7.alloc (.cells #[.slice X.A X.l.length X.c] 28)) (some ⟨w7.heap.size, 0, none⟩) 1 [X] := ⟨new_ft w7 X, fun f hf => by rw [List.mem_singleton.1 hf]; exact HX7.out.later (one_new _ _), by omega⟩
  have HFS := Lib.hid hfs
  clear hfs
  go_wp2_with fail
  refine (reduce_any (c := 1) HFS.out (by simp) (fun f hf => by rw [List.mem_singleton.1 hf]; exact ⟨by omega, HXs.out⟩)).mono ?_
  rintro e w8 hp
  have hp' : RowPost [Fi.tests X] (w7.alloc (.cells #[.slice X.A X.l.length X.c] 28)) e w8 := hp
  obtain ⟨A8, c8, M, rfl, hmt, hfs8, hown8, -, hb⟩ := hp'.fs (fun t ht => by rw [List.mem_singleton.1 ht]; exact HXfit.out) (by simp)
  obtain ⟨R, rfl, hRt⟩ := one_of hmt
  obtain ⟨g8, o8, R', rfl, eR, -, hcell⟩ := hfs8.cells (Below.refl _ _) (k := 0) (by simp)
  cases eR
  have hn7 := one_new w7 (.cells #[.slice X.A X.l.length X.c] 28)
  have hRl := tests_len hRt
  have HRt := Lib.hid hRt
  have HR := Lib.hid ((hown8 R (by simp)).sub hn7.size)
  have HX8 := Lib.hid ((HX7.out.later hn7).later hb)
  have HY8 := Lib.hid ((HY.out.later hn7).later hb)
  have HB8 := Lib.hid (below_then (below_then HB7.out hn7) hb)
  have HYlow : Hid (∀ i, Y.in_ i → i < w7.heap.size) := by
    intro i hi
    rcases hi with hi | ⟨x, hx, hi⟩
    · exact ownw_lt HY.out.row i hi
    · exact ownw_lt (HY.out.sets x hx) i hi
  have HRlow : Hid (∀ i, R.in_ i → i < w8.heap.size) := by
    intro i hi
    rcases hi with hi | ⟨x, hx, hi⟩
    · exact ownw_lt HR.out.row i hi
    · exact ownw_lt (HR.out.sets x hx) i hi
  have hw6 : w.heap.size ≤ w6.heap.size := HB6s.out
  have h67 : w6.heap.size ≤ w7.heap.size := HY.out.row.2
  have h78 : w7.heap.size ≤ w8.heap.size := HR.out.row.2
  have HC := Lib.hid hcell
  clear hp hp' hmt hfs8 hown8 hb hcell hn7 hRt HX7 HY HB7 HFS
  dsimp only [List.length_cons, List.length_nil, Nat.add_zero, Nat.zero_add] at HC ⊢
  go_wp2_with fail
  refine (hfilter_any HX8.out.ps (by omega) HXs.out).mono ?_
  rintro e w9 hp
  obtain ⟨W, rfl, hWt, hWo, hb⟩ := hp.own
  have HWt := Lib.hid hWt
  have HX9 := Lib.hid (HX8.out.later hb)
  have HY9 := Lib.hid (HY8.out.later hb)
  have HR9 := Lib.hid (HR.out.later hb)
  have HB9 := Lib.hid (below_then HB8.out hb)
  have HW9 := Lib.hid hWo
  have HC9 := Lib.hid ((hb.cell (cell_lt HC.out)).trans HC.out)
  clear hp hWt hWo hb HX8 HY8 HR HB8 HC
  dsimp only [Ft.v]
  go_wp2_with fail
  refine (known_any _).mono ?_
  rintro e w10 ⟨rfl, hb⟩
  have HX := Lib.hid (HX9.out.later hb)
  have HY := Lib.hid (HY9.out.later hb)
  have HR := Lib.hid (HR9.out.later hb)
  have HB := Lib.hid (below_then HB9.out hb)
  have HW := Lib.hid (HW9.out.is (by rw [HWt.out]; exact HXfit.out) |>.later hb)
  have HWb : Hid (∀ i, W.in_ i → w8.heap.size ≤ i) := by
    intro i hi
    rcases hi with hi | ⟨x, hx, hi⟩
    · exact ownw_base HW9.out.row i hi
    · exact ownw_base (HW9.out.sets x hx) i hi
  have hcell := (hb.cell (cell_lt HC9.out)).trans HC9.out
  have h810 : w8.heap.size ≤ w10.heap.size := Nat.le_trans HW9.out.row.2 hb.size
  clear hb HX9 HY9 HR9 HB9 HW9 HC9
  generalize w6.heap.size = N1 at *
  generalize w7.heap.size = N2 at *
  generalize w8.heap.size = N3 at *
  rw [hYl]
  rw [hRl] at hcell
  have HRd : Hid (Rd w N1 N2 N3 X Y R W 0 w10) := ⟨HX.out, HW.out, fun _ => HY.out, fun _ => HR.out, HB.out, h810⟩
  have hBx : w.heap.size ≤ N1 := hw6
  have HQ : Hid (Rs3 w N1 N2 N3 X W) := ⟨HXlow.out, HWb.out, hBx, h67, h78⟩
  obtain ⟨ts, hts⟩ := HXt.out
  obtain ⟨m, hn⟩ : ∃ m, X.l.length = m + 1 := ⟨X.l.length - 1, by omega⟩
  have hm3 : m ≤ 3 := by omega
  have HYl := Lib.hid hYl
  have HRl := Lib.hid hRl
  clear HX HW HY HR HB hX5 hYl hRl HXs HXfit HXlow
  rw [hn]
  rw [hn] at hcell
  have HN := Lib.hid hn
  clear hn
  go_wp2_with fail
  go_loopw [59] (fun ii wr => (ii = .int .i64 0 ∧ Rd w N1 N2 N3 X Y R W 0 wr) ∨ (ii = .int .i64 1 ∧ Rd w N1 N2 N3 X Y R W 1 wr) ∨ (ii = .int .i64 2 ∧ Rd w N1 N2 N3 X Y R W 2 wr)) (fun ii _ => 2 - (intOf ii).toNat)
  case atStart => exact .inl ⟨rfl, HRd.out⟩
  case round =>
    clear HRd
    have hn := HN.out
    rcases hrel with ⟨rfl, hRd⟩ | ⟨rfl, hRd⟩ | ⟨rfl, hRd⟩
    · have HRd := Lib.hid hRd
      clear hRd
      obtain ⟨gz, gs, cs, eA, i1, i2, b1, b2, hne, z1, z2, hc, h2c, hcells, hset, hsets⟩ := last_cells (HRd.out.y rfl) (HYt.out.trans hts)
      have HI1 := Lib.hid i1
      have HI2 := Lib.hid i2
      rw [HYl.out, hn] at hc hcells hset
      rw [Nat.add_sub_cancel] at hset
      have HCells := Lib.hid hcells
      have HSets := Lib.hid hsets
      rw [eA]
      clear i1 i2 eA hcells hsets
      have p0 := pair_at0
      have p1 := pair_at1
      have um : IntKind.i64.wrap ((m : Int) + 1 - 1) = (m : Int) := by rw [Int.add_sub_cancel]; exact IntWalk.i64_in _ (by omega)
      have um2 : IntKind.i64.wrap (m : Int) = (m : Int) := IntWalk.i64_in _ (by omega)
      obtain ⟨q, hq2, hq⟩ : ∃ q : Nat, q < 2 ∧ at_ % 2 = (q : Int) := ⟨(at_ % 2).toNat, by omega, by omega⟩
      obtain ⟨j, hj2, hj⟩ : ∃ j : Nat, j < m + 1 ∧ at_ % ((m : Int) + 1) = (j : Int) := by
        have h1 := Int.emod_nonneg at_ (show ((m : Int) + 1) ≠ 0 by omega)
        have h2 := Int.emod_lt_of_pos at_ (show 0 < ((m : Int) + 1) by omega)
        exact ⟨(at_ % ((m : Int) + 1)).toNat, by omega, by omega⟩
      have HP : Hid (∀ w : World, Calls Try.prog 24 #[.int .i64 at_, .int .i64 2] w fun e w' => e = .returned (.int .i64 (q : Int)) ∧ w = w') := fun w => hq ▸ pick_any at_ 2 (by omega) (by omega) w
      have HP2 : Hid (∀ w : World, Calls Try.prog 24 #[.int .i64 at_, .int .i64 ((m : Int) + 1)] w fun e w' => e = .returned (.int .i64 (j : Int)) ∧ w = w') := fun w => hj ▸ pick_any at_ ((m : Int) + 1) (by omega) (by omega) w
      clear hq hj
      have c1 : (m : Int) < (m : Int) + 1 := by omega
      have c2 : (q : Int) < 2 := by omega
      have c3 : (j : Int) < (m : Int) + 1 := by omega
      go_upto_region 13 with fail
      have hd := drew_below wr
      have HRd := Lib.hid (HRd.out.later hd)
      have HSet := Lib.hid ((hd.cell (p := ⟨gz, m * 13 + 12, none⟩) z1).trans hset)
      have HCells : Hid (∀ j, j < m + 1 → ∃ u, wr.drew.cell? ⟨gz, j * 13, none⟩ = some u ∧ wr.drew.frozen? ⟨gz, j * 13, none⟩ = false) := fun j hj => by
        obtain ⟨u, h1, h2⟩ := HCells.out j hj
        exact ⟨u, (hd.cell (p := ⟨gz, j * 13, none⟩) z1).trans h1, ((show Kept (fun _ => False) wr wr.drew from Kept.ofBelow hd).frozen (p := ⟨gz, j * 13, none⟩) z1 (fun e => e)).trans h2⟩
      obtain ⟨u, hu1, hu2⟩ : ∃ u, wr.drew.cell? ⟨gs, q * 5 + 1, none⟩ = some u ∧ wr.drew.frozen? ⟨gs, q * 5 + 1, none⟩ = false := by
        obtain ⟨u, h1, h2⟩ := HSets.out q hq2
        exact ⟨u, (hd.cell (p := ⟨gs, q * 5 + 1, none⟩) z2).trans h1, ((show Kept (fun _ => False) wr wr.drew from Kept.ofBelow hd).frozen (p := ⟨gs, q * 5 + 1, none⟩) z2 (fun e => e)).trans h2⟩
      replace z1 : gz < wr.drew.heap.size := Nat.lt_of_lt_of_le z1 hd.size
      replace z2 : gs < wr.drew.heap.size := Nat.lt_of_lt_of_le z2 hd.size
      clear hd hset HSets
      refine held_begin (fun x => x.cell? ⟨gz, m * 13 + 12, none⟩ = some (.slice (some ⟨gs, 0, none⟩) 2 cs)) (by kernel_rfl) ?_
      generalize wr.drew = wd at HRd HSet HCells hu1 hu2 z1 z2 ⊢
      refine held_read (i := 0) (o := { dst := some 71, op := Op.move (Operand.tmp 11), type := 28, pos := "law.go:144", after := #[], guard := none }) (v := ?_) rfl (by kernel_rfl) (by kernel_rfl) (by kernel_rfl) (fun _ _ _ h => h) (by rfl) HSet.out ?_ ?_
      rotate_left
      · (intro x hx; go_simp; try with_reducible rfl)
      try simp only [Act.put, List.setIfInBounds_toArray, List.set_cons_zero, List.set_cons_succ]
      refine held_read (i := 1) (o := { dst := some 72, op := Op.move (Operand.tmp 11), type := 28, pos := "law.go:144", after := #[], guard := none }) (v := ?_) rfl (by kernel_rfl) (by kernel_rfl) (by kernel_rfl) (fun _ _ _ h => h) (by rfl) HSet.out ?_ ?_
      rotate_left
      · (intro x hx; go_simp; try with_reducible rfl)
      try simp only [Act.put, List.setIfInBounds_toArray, List.set_cons_zero, List.set_cons_succ]
      refine held_read (i := 2) (o := { dst := some 73, op := Op.call { callee := Callee.builtin Builtin.len, args := #[Operand.tmp 72], argTypes := #[28] }, type := 3, pos := "law.go:144", after := #[{ on := 1, ground := Ground.data }], guard := none }) (v := ?_) rfl (by kernel_rfl) (by kernel_rfl) (by kernel_rfl) (fun _ _ _ h => h) (by rfl) HSet.out ?_ ?_
      rotate_left
      · (intro x hx; go_simp; try with_reducible rfl)
      try simp only [Act.put, List.setIfInBounds_toArray, List.set_cons_zero, List.set_cons_succ]
      refine held_read (i := 3) (o := { dst := some 74, op := Op.binOp BinOp.sub 3 (Operand.tmp 73) (Operand.const (Value.int IntKind.i64 1)) 3, type := 3, pos := "law.go:144", after := #[{ on := 2, ground := Ground.data }], guard := none }) (v := ?_) rfl (by kernel_rfl) (by kernel_rfl) (by kernel_rfl) (fun _ _ _ h => h) (by rfl) HSet.out ?_ ?_
      rotate_left
      · (intro x hx; go_simp; try with_reducible rfl)
      try simp only [Act.put, List.setIfInBounds_toArray, List.set_cons_zero, List.set_cons_succ]
      refine held_read (i := 4) (o := { dst := some 75, op := Op.indexAddr 28 (Operand.tmp 71) (Operand.tmp 74), type := 0, pos := "law.go:144", after := #[{ on := 0, ground := Ground.data }, { on := 3, ground := Ground.data }], guard := none }) (v := ?_) rfl (by kernel_rfl) (by kernel_rfl) (by kernel_rfl) (fun _ _ _ h => h) (by rfl) HSet.out ?_ ?_
      rotate_left
      · (intro x hx; go_simp; try with_reducible rfl)
      try simp only [Act.put, List.setIfInBounds_toArray, List.set_cons_zero, List.set_cons_succ]
      refine held_read (i := 5) (o := { dst := some 76, op := Op.fieldAddr 27 (Operand.tmp 75) 4, type := 0, pos := "law.go:144", after := #[{ on := 4, ground := Ground.data }], guard := none }) (v := ?_) rfl (by kernel_rfl) (by kernel_rfl) (by kernel_rfl) (fun _ _ _ h => h) (by rfl) HSet.out ?_ ?_
      rotate_left
      · (intro x hx; go_simp; try with_reducible rfl)
      try simp only [Act.put, List.setIfInBounds_toArray, List.set_cons_zero, List.set_cons_succ]
      refine held_read (i := 6) (o := { dst := some 77, op := Op.load 25 (Operand.tmp 76), type := 25, pos := "law.go:144", after := #[{ on := 5, ground := Ground.data }], guard := none }) (v := ?_) rfl (by kernel_rfl) (by kernel_rfl) (by kernel_rfl) (fun _ _ _ h => h) (by rfl) HSet.out ?_ ?_
      rotate_left
      · (intro x hx; go_simp; try with_reducible rfl)
      try simp only [Act.put, List.setIfInBounds_toArray, List.set_cons_zero, List.set_cons_succ]
      refine held_read (i := 7) (o := { dst := some 78, op := Op.move (Operand.tmp 1), type := 3, pos := "law.go:144", after := #[], guard := none }) (v := ?_) rfl (by kernel_rfl) (by kernel_rfl) (by kernel_rfl) (fun _ _ _ h => h) (by rfl) HSet.out ?_ ?_
      rotate_left
      · (intro x hx; go_simp; try with_reducible rfl)
      try simp only [Act.put, List.setIfInBounds_toArray, List.set_cons_zero, List.set_cons_succ]
      refine held_call (i := 8) (o := { dst := some 79, op := Op.call { callee := Callee.value (Operand.func 24), args := #[Operand.tmp 78, Operand.const (Value.int IntKind.i64 2)], argTypes := #[3, 3] }, type := 3, pos := "law.go:144", after := #[{ on := 7, ground := Ground.data }], guard := none }) rfl (by kernel_rfl) (by rfl) (fun K hK => ?_)
      go_simp
      refine (HP.out _).mono ?_
      rintro e _ ⟨rfl, rfl⟩
      refine hK.out _ _ HSet.out ?_
      clear hK K
      try simp only [Act.put, List.setIfInBounds_toArray, List.set_cons_zero, List.set_cons_succ]
      refine held_read (i := 9) (o := { dst := some 80, op := Op.indexAddr 25 (Operand.tmp 77) (Operand.tmp 79), type := 0, pos := "law.go:144", after := #[{ on := 6, ground := Ground.data }, { on := 8, ground := Ground.data }, { on := 0, ground := Ground.phase }, { on := 1, ground := Ground.phase }, { on := 2, ground := Ground.phase }, { on := 3, ground := Ground.phase }, { on := 4, ground := Ground.phase }, { on := 5, ground := Ground.phase }, { on := 6, ground := Ground.phase }, { on := 7, ground := Ground.phase }, { on := 8, ground := Ground.phase }], guard := none }) (v := ?_) rfl (by kernel_rfl) (by kernel_rfl) (by kernel_rfl) (fun _ _ _ h => h) (by rfl) HSet.out ?_ ?_
      rotate_left
      · (intro x hx; go_simp; try with_reducible rfl)
      try simp only [Act.put, List.setIfInBounds_toArray, List.set_cons_zero, List.set_cons_succ]
      refine held_read (i := 10) (o := { dst := some 81, op := Op.fieldAddr 24 (Operand.tmp 80) 1, type := 0, pos := "law.go:144", after := #[{ on := 9, ground := Ground.data }, { on := 0, ground := Ground.phase }, { on := 1, ground := Ground.phase }, { on := 2, ground := Ground.phase }, { on := 3, ground := Ground.phase }, { on := 4, ground := Ground.phase }, { on := 5, ground := Ground.phase }, { on := 6, ground := Ground.phase }, { on := 7, ground := Ground.phase }, { on := 8, ground := Ground.phase }], guard := none }) (v := ?_) rfl (by kernel_rfl) (by kernel_rfl) (by kernel_rfl) (fun _ _ _ h => h) (by rfl) HSet.out ?_ ?_
      rotate_left
      · (intro x hx; go_simp; try with_reducible rfl)
      try simp only [Act.put, List.setIfInBounds_toArray, List.set_cons_zero, List.set_cons_succ]
      refine held_call (i := 11) (o := { dst := none, op := Op.store 2 (Operand.tmp 81) (Operand.const (Value.int IntKind.i64 99)), type := 0, pos := "law.go:144", after := #[{ on := 10, ground := Ground.data }, { on := 8, ground := Ground.chain }, { on := 0, ground := Ground.phase }, { on := 1, ground := Ground.phase }, { on := 2, ground := Ground.phase }, { on := 3, ground := Ground.phase }, { on := 4, ground := Ground.phase }, { on := 5, ground := Ground.phase }, { on := 6, ground := Ground.phase }, { on := 7, ground := Ground.phase }, { on := 8, ground := Ground.phase }], guard := none }) rfl (by kernel_rfl) (by rfl) (fun K hK => ?_)
      go_simp
      have ht : Kept (fun i => i = gs ∨ i = gz) wd (wd.setCell ⟨gs, q * 5 + 1, none⟩ (.int .i64 99)) := Kept.setCell (S := fun i => i = gs ∨ i = gz) _ _ (.inl rfl) _
      have ht1 : Kept (· = gs) wd (wd.setCell ⟨gs, q * 5 + 1, none⟩ (.int .i64 99)) := Kept.setCell (S := (· = gs)) _ _ rfl _
      have HT := Lib.hid ht
      have HCells2 : Hid (∃ u, (wd.setCell ⟨gs, q * 5 + 1, none⟩ (.int .i64 99)).cell? ⟨gz, j * 13, none⟩ = some u ∧ (wd.setCell ⟨gs, q * 5 + 1, none⟩ (.int .i64 99)).frozen? ⟨gz, j * 13, none⟩ = false) := by obtain ⟨u, h1, h2⟩ := HCells.out j hj2; exact ⟨u, (ht1.cell (p := ⟨gz, j * 13, none⟩) z1 hne).trans h1, (ht1.frozen (p := ⟨gz, j * 13, none⟩) z1 hne).trans h2⟩
      refine hK.out _ _ ((ht1.cell (p := ⟨gz, m * 13 + 12, none⟩) z1 hne).trans HSet.out) ?_
      clear hK K ht ht1 hu1 hu2
      generalize wd.setCell _ _ = we at HT HCells2 ⊢
      try simp only [Act.put]
      refine wpAnyH_done (by kernel_rfl) ?_ _
      obtain ⟨u2, hv1, hv2⟩ := HCells2.out
      go_wp2_with fail
      refine (HP2.out _).mono ?_
      rintro e _ ⟨rfl, rfl⟩
      go_wp2_with fail
      have kt : Kept (fun i => i = gs ∨ i = gz) we (we.setCell ⟨gz, j * 13, none⟩ (.string ⟨#[116, 117, 114, 110, 101, 100]⟩)) := Kept.setCell (S := fun i => i = gs ∨ i = gz) _ _ (.inr rfl) _
      have hend := HRd.out.turn HQ.out (HT.out.then kt) (fun _ i hi => by
        rcases hi with rfl | rfl
        · exact ⟨b2, HYlow.out _ HI2.out⟩
        · exact ⟨b1, HYlow.out _ HI1.out⟩) (fun e => by omega) (by omega)
      exact ⟨.inr (.inl ⟨rfl, hend⟩), by decide⟩
    · have HRd := Lib.hid hRd
      clear hRd
      obtain ⟨gz, gs, cs, eA, i1, i2, b1, b2, hne, z1, z2, hc, h2c, hcells, hset, hsets⟩ := last_cells (HRd.out.r (by omega)) (HRt.out.trans hts)
      have HI1 := Lib.hid i1
      have HI2 := Lib.hid i2
      rw [HRl.out, hn] at hc hcells hset
      rw [Nat.add_sub_cancel] at hset
      have HCells := Lib.hid hcells
      have HSets := Lib.hid hsets
      rw [eA]
      clear i1 i2 eA hcells hsets
      have p0 := pair_at0
      have p1 := pair_at1
      have um : IntKind.i64.wrap ((m : Int) + 1 - 1) = (m : Int) := by rw [Int.add_sub_cancel]; exact IntWalk.i64_in _ (by omega)
      have um2 : IntKind.i64.wrap (m : Int) = (m : Int) := IntWalk.i64_in _ (by omega)
      obtain ⟨q, hq2, hq⟩ : ∃ q : Nat, q < 2 ∧ at_ % 2 = (q : Int) := ⟨(at_ % 2).toNat, by omega, by omega⟩
      obtain ⟨j, hj2, hj⟩ : ∃ j : Nat, j < m + 1 ∧ at_ % ((m : Int) + 1) = (j : Int) := by
        have h1 := Int.emod_nonneg at_ (show ((m : Int) + 1) ≠ 0 by omega)
        have h2 := Int.emod_lt_of_pos at_ (show 0 < ((m : Int) + 1) by omega)
        exact ⟨(at_ % ((m : Int) + 1)).toNat, by omega, by omega⟩
      have HP : Hid (∀ w : World, Calls Try.prog 24 #[.int .i64 at_, .int .i64 2] w fun e w' => e = .returned (.int .i64 (q : Int)) ∧ w = w') := fun w => hq ▸ pick_any at_ 2 (by omega) (by omega) w
      have HP2 : Hid (∀ w : World, Calls Try.prog 24 #[.int .i64 at_, .int .i64 ((m : Int) + 1)] w fun e w' => e = .returned (.int .i64 (j : Int)) ∧ w = w') := fun w => hj ▸ pick_any at_ ((m : Int) + 1) (by omega) (by omega) w
      clear hq hj
      have c1 : (m : Int) < (m : Int) + 1 := by omega
      have c2 : (q : Int) < 2 := by omega
      have c3 : (j : Int) < (m : Int) + 1 := by omega
      go_upto_region 13 with fail
      have hd := drew_below wr
      have HRd := Lib.hid (HRd.out.later hd)
      have HSet := Lib.hid ((hd.cell (p := ⟨gz, m * 13 + 12, none⟩) z1).trans hset)
      have HCells : Hid (∀ j, j < m + 1 → ∃ u, wr.drew.cell? ⟨gz, j * 13, none⟩ = some u ∧ wr.drew.frozen? ⟨gz, j * 13, none⟩ = false) := fun j hj => by
        obtain ⟨u, h1, h2⟩ := HCells.out j hj
        exact ⟨u, (hd.cell (p := ⟨gz, j * 13, none⟩) z1).trans h1, ((show Kept (fun _ => False) wr wr.drew from Kept.ofBelow hd).frozen (p := ⟨gz, j * 13, none⟩) z1 (fun e => e)).trans h2⟩
      obtain ⟨u, hu1, hu2⟩ : ∃ u, wr.drew.cell? ⟨gs, q * 5 + 1, none⟩ = some u ∧ wr.drew.frozen? ⟨gs, q * 5 + 1, none⟩ = false := by
        obtain ⟨u, h1, h2⟩ := HSets.out q hq2
        exact ⟨u, (hd.cell (p := ⟨gs, q * 5 + 1, none⟩) z2).trans h1, ((show Kept (fun _ => False) wr wr.drew from Kept.ofBelow hd).frozen (p := ⟨gs, q * 5 + 1, none⟩) z2 (fun e => e)).trans h2⟩
      replace z1 : gz < wr.drew.heap.size := Nat.lt_of_lt_of_le z1 hd.size
      replace z2 : gs < wr.drew.heap.size := Nat.lt_of_lt_of_le z2 hd.size
      clear hd hset HSets
      refine held_begin (fun x => x.cell? ⟨gz, m * 13 + 12, none⟩ = some (.slice (some ⟨gs, 0, none⟩) 2 cs)) (by kernel_rfl) ?_
      generalize wr.drew = wd at HRd HSet HCells hu1 hu2 z1 z2 ⊢
      refine held_read (i := 0) (o := { dst := some 71, op := Op.move (Operand.tmp 11), type := 28, pos := "law.go:144", after := #[], guard := none }) (v := ?_) rfl (by kernel_rfl) (by kernel_rfl) (by kernel_rfl) (fun _ _ _ h => h) (by rfl) HSet.out ?_ ?_
      rotate_left
      · (intro x hx; go_simp; try with_reducible rfl)
      try simp only [Act.put, List.setIfInBounds_toArray, List.set_cons_zero, List.set_cons_succ]
      refine held_read (i := 1) (o := { dst := some 72, op := Op.move (Operand.tmp 11), type := 28, pos := "law.go:144", after := #[], guard := none }) (v := ?_) rfl (by kernel_rfl) (by kernel_rfl) (by kernel_rfl) (fun _ _ _ h => h) (by rfl) HSet.out ?_ ?_
      rotate_left
      · (intro x hx; go_simp; try with_reducible rfl)
      try simp only [Act.put, List.setIfInBounds_toArray, List.set_cons_zero, List.set_cons_succ]
      refine held_read (i := 2) (o := { dst := some 73, op := Op.call { callee := Callee.builtin Builtin.len, args := #[Operand.tmp 72], argTypes := #[28] }, type := 3, pos := "law.go:144", after := #[{ on := 1, ground := Ground.data }], guard := none }) (v := ?_) rfl (by kernel_rfl) (by kernel_rfl) (by kernel_rfl) (fun _ _ _ h => h) (by rfl) HSet.out ?_ ?_
      rotate_left
      · (intro x hx; go_simp; try with_reducible rfl)
      try simp only [Act.put, List.setIfInBounds_toArray, List.set_cons_zero, List.set_cons_succ]
      refine held_read (i := 3) (o := { dst := some 74, op := Op.binOp BinOp.sub 3 (Operand.tmp 73) (Operand.const (Value.int IntKind.i64 1)) 3, type := 3, pos := "law.go:144", after := #[{ on := 2, ground := Ground.data }], guard := none }) (v := ?_) rfl (by kernel_rfl) (by kernel_rfl) (by kernel_rfl) (fun _ _ _ h => h) (by rfl) HSet.out ?_ ?_
      rotate_left
      · (intro x hx; go_simp; try with_reducible rfl)
      try simp only [Act.put, List.setIfInBounds_toArray, List.set_cons_zero, List.set_cons_succ]
      refine held_read (i := 4) (o := { dst := some 75, op := Op.indexAddr 28 (Operand.tmp 71) (Operand.tmp 74), type := 0, pos := "law.go:144", after := #[{ on := 0, ground := Ground.data }, { on := 3, ground := Ground.data }], guard := none }) (v := ?_) rfl (by kernel_rfl) (by kernel_rfl) (by kernel_rfl) (fun _ _ _ h => h) (by rfl) HSet.out ?_ ?_
      rotate_left
      · (intro x hx; go_simp; try with_reducible rfl)
      try simp only [Act.put, List.setIfInBounds_toArray, List.set_cons_zero, List.set_cons_succ]
      refine held_read (i := 5) (o := { dst := some 76, op := Op.fieldAddr 27 (Operand.tmp 75) 4, type := 0, pos := "law.go:144", after := #[{ on := 4, ground := Ground.data }], guard := none }) (v := ?_) rfl (by kernel_rfl) (by kernel_rfl) (by kernel_rfl) (fun _ _ _ h => h) (by rfl) HSet.out ?_ ?_
      rotate_left
      · (intro x hx; go_simp; try with_reducible rfl)
      try simp only [Act.put, List.setIfInBounds_toArray, List.set_cons_zero, List.set_cons_succ]
      refine held_read (i := 6) (o := { dst := some 77, op := Op.load 25 (Operand.tmp 76), type := 25, pos := "law.go:144", after := #[{ on := 5, ground := Ground.data }], guard := none }) (v := ?_) rfl (by kernel_rfl) (by kernel_rfl) (by kernel_rfl) (fun _ _ _ h => h) (by rfl) HSet.out ?_ ?_
      rotate_left
      · (intro x hx; go_simp; try with_reducible rfl)
      try simp only [Act.put, List.setIfInBounds_toArray, List.set_cons_zero, List.set_cons_succ]
      refine held_read (i := 7) (o := { dst := some 78, op := Op.move (Operand.tmp 1), type := 3, pos := "law.go:144", after := #[], guard := none }) (v := ?_) rfl (by kernel_rfl) (by kernel_rfl) (by kernel_rfl) (fun _ _ _ h => h) (by rfl) HSet.out ?_ ?_
      rotate_left
      · (intro x hx; go_simp; try with_reducible rfl)
      try simp only [Act.put, List.setIfInBounds_toArray, List.set_cons_zero, List.set_cons_succ]
      refine held_call (i := 8) (o := { dst := some 79, op := Op.call { callee := Callee.value (Operand.func 24), args := #[Operand.tmp 78, Operand.const (Value.int IntKind.i64 2)], argTypes := #[3, 3] }, type := 3, pos := "law.go:144", after := #[{ on := 7, ground := Ground.data }], guard := none }) rfl (by kernel_rfl) (by rfl) (fun K hK => ?_)
      go_simp
      refine (HP.out _).mono ?_
      rintro e _ ⟨rfl, rfl⟩
      refine hK.out _ _ HSet.out ?_
      clear hK K
      try simp only [Act.put, List.setIfInBounds_toArray, List.set_cons_zero, List.set_cons_succ]
      refine held_read (i := 9) (o := { dst := some 80, op := Op.indexAddr 25 (Operand.tmp 77) (Operand.tmp 79), type := 0, pos := "law.go:144", after := #[{ on := 6, ground := Ground.data }, { on := 8, ground := Ground.data }, { on := 0, ground := Ground.phase }, { on := 1, ground := Ground.phase }, { on := 2, ground := Ground.phase }, { on := 3, ground := Ground.phase }, { on := 4, ground := Ground.phase }, { on := 5, ground := Ground.phase }, { on := 6, ground := Ground.phase }, { on := 7, ground := Ground.phase }, { on := 8, ground := Ground.phase }], guard := none }) (v := ?_) rfl (by kernel_rfl) (by kernel_rfl) (by kernel_rfl) (fun _ _ _ h => h) (by rfl) HSet.out ?_ ?_
      rotate_left
      · (intro x hx; go_simp; try with_reducible rfl)
      try simp only [Act.put, List.setIfInBounds_toArray, List.set_cons_zero, List.set_cons_succ]
      refine held_read (i := 10) (o := { dst := some 81, op := Op.fieldAddr 24 (Operand.tmp 80) 1, type := 0, pos := "law.go:144", after := #[{ on := 9, ground := Ground.data }, { on := 0, ground := Ground.phase }, { on := 1, ground := Ground.phase }, { on := 2, ground := Ground.phase }, { on := 3, ground := Ground.phase }, { on := 4, ground := Ground.phase }, { on := 5, ground := Ground.phase }, { on := 6, ground := Ground.phase }, { on := 7, ground := Ground.phase }, { on := 8, ground := Ground.phase }], guard := none }) (v := ?_) rfl (by kernel_rfl) (by kernel_rfl) (by kernel_rfl) (fun _ _ _ h => h) (by rfl) HSet.out ?_ ?_
      rotate_left
      · (intro x hx; go_simp; try with_reducible rfl)
      try simp only [Act.put, List.setIfInBounds_toArray, List.set_cons_zero, List.set_cons_succ]
      refine held_call (i := 11) (o := { dst := none, op := Op.store 2 (Operand.tmp 81) (Operand.const (Value.int IntKind.i64 99)), type := 0, pos := "law.go:144", after := #[{ on := 10, ground := Ground.data }, { on := 8, ground := Ground.chain }, { on := 0, ground := Ground.phase }, { on := 1, ground := Ground.phase }, { on := 2, ground := Ground.phase }, { on := 3, ground := Ground.phase }, { on := 4, ground := Ground.phase }, { on := 5, ground := Ground.phase }, { on := 6, ground := Ground.phase }, { on := 7, ground := Ground.phase }, { on := 8, ground := Ground.phase }], guard := none }) rfl (by kernel_rfl) (by rfl) (fun K hK => ?_)
      go_simp
      have ht : Kept (fun i => i = gs ∨ i = gz) wd (wd.setCell ⟨gs, q * 5 + 1, none⟩ (.int .i64 99)) := Kept.setCell (S := fun i => i = gs ∨ i = gz) _ _ (.inl rfl) _
      have ht1 : Kept (· = gs) wd (wd.setCell ⟨gs, q * 5 + 1, none⟩ (.int .i64 99)) := Kept.setCell (S := (· = gs)) _ _ rfl _
      have HT := Lib.hid ht
      have HCells2 : Hid (∃ u, (wd.setCell ⟨gs, q * 5 + 1, none⟩ (.int .i64 99)).cell? ⟨gz, j * 13, none⟩ = some u ∧ (wd.setCell ⟨gs, q * 5 + 1, none⟩ (.int .i64 99)).frozen? ⟨gz, j * 13, none⟩ = false) := by obtain ⟨u, h1, h2⟩ := HCells.out j hj2; exact ⟨u, (ht1.cell (p := ⟨gz, j * 13, none⟩) z1 hne).trans h1, (ht1.frozen (p := ⟨gz, j * 13, none⟩) z1 hne).trans h2⟩
      refine hK.out _ _ ((ht1.cell (p := ⟨gz, m * 13 + 12, none⟩) z1 hne).trans HSet.out) ?_
      clear hK K ht ht1 hu1 hu2
      generalize wd.setCell _ _ = we at HT HCells2 ⊢
      try simp only [Act.put]
      refine wpAnyH_done (by kernel_rfl) ?_ _
      obtain ⟨u2, hv1, hv2⟩ := HCells2.out
      go_wp2_with fail
      refine (HP2.out _).mono ?_
      rintro e _ ⟨rfl, rfl⟩
      go_wp2_with fail
      have kt : Kept (fun i => i = gs ∨ i = gz) we (we.setCell ⟨gz, j * 13, none⟩ (.string ⟨#[116, 117, 114, 110, 101, 100]⟩)) := Kept.setCell (S := fun i => i = gs ∨ i = gz) _ _ (.inr rfl) _
      have hend := HRd.out.turn HQ.out (HT.out.then kt) (fun e => by omega) (fun _ i hi => by
        rcases hi with rfl | rfl
        · exact ⟨b2, HRlow.out _ HI2.out⟩
        · exact ⟨b1, HRlow.out _ HI1.out⟩) (by omega)
      exact ⟨.inr (.inr ⟨rfl, hend⟩), by decide⟩
    · clear hn
      have HRd := Lib.hid hRd
      clear hRd
      have hsm : Fi.same X.l W.l = true := by rw [Fi.same_t, show W.l.map (·.p) = X.l.map (·.p) from HWt.out]; exact Fi.sameT_self _
      have hps : Ps wr X.A (m + 1) X.l := by rw [← HN.out]; exact HRd.out.x.ps
      have HK := Lib.hid (rfsame_any (c := X.c) (c' := W.c) hps HRd.out.was.ps)
      rw [hsm] at HK
      clear hsm hps
      go_wp2_with fail
      refine HK.out.mono ?_
      rintro e w11 ⟨rfl, hb⟩
      have HB := Lib.hid (below_then HRd.out.below hb)
      clear hb HK
      go_wp2_with fail
      go_ret
      exact ⟨rfl, HB.out⟩
theorem fown_below (w : World) (A : Option Addr) (len cap : Nat) (zs : List Int) (hr : IsRow .i64 w A len cap zs) (at_ : Int) (hw : (Lit.int .i64 at_).wf = true) :
    Calls Try.prog 6 #[.slice A len cap, .int .i64 at_] w fun e w' => e = .returned (.bool true) ∧ Below w.heap.size w w' := fown_walk A len cap at_ w hr.draws
end Go.Proofs.Ytfbfbajccphkoaa
