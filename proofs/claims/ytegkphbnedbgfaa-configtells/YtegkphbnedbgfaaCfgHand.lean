
/- Hand's Tree of at most so many brokers, and hand's Config: one that may be. -/
import Derived.Test.YtegkphbnedbgfaaCfg
namespace Go.Proofs.Ytegkphbnedbgfaa
open Go.RowKit
set_option linter.unusedVariables false

theorem Kept.rowc {S : Nat → Prop} {w w' : World} (h : Kept S w w') {g : Nat} {o : Obj} (hg : w.heap[g]? = some o) (hs : ¬ S g) : w'.heap[g]? = some o := by
  have hlt : g < w.heap.size := by
    rcases Nat.lt_or_ge g w.heap.size with h | h
    · exact h
    · rw [Array.getElem?_eq_none h] at hg; cases hg
  rw [h.block g hlt hs]; exact hg
/-- What Tree tells: a row of its own; the Feed is one still. -/
def TreePostM (M : Int) (B b a : Nat) (w : World) (e : Ending) (w' : World) : Prop :=
  ∃ v L, e = .returned v ∧ OwnI w.heap.size w' v L ∧ Tr.right L = true ∧ (L.length : Int) + 1 ≤ M ∧ IsFeed B w' b (a + 10) ∧ Kept (· = b) w w'
set_option maxRecDepth 100000 in
set_option maxHeartbeats 4000000 in
theorem feedtree_most {B b a : Nat} (M : Int) (hM : 1 ≤ M) (hM8 : M ≤ 8) (w : World) (ha : a < 1000000) (hf : IsFeed B w b a) :
    Calls Try.prog 21 #[.pointer (some ⟨b, 0, none⟩), .int .i64 M] w (TreePostM M B b a w) := by
  have hb := hf.lt
  have HF := Lib.hid hf
  clear hf
  go_enter Try.func21, Try.ntmps21
  go_wp2_with fail
  refine (next_any M (by omega) (by omega) w (by omega) HF.out).mono ?_
  rintro e w1 ⟨n0, hn0, rfl, hf1, hk1, hs1⟩
  have HF1 := Lib.hid hf1
  have HK1 := Lib.hid hk1
  have hs2 := Nat.le_of_eq hs1.symm
  clear hf1 hk1 hs1 HF
  go_wp2_with fail
  go_loopw [5, 6] (fun xv ii wr => ∃ (k : Nat) (L : List Int), (L.length : Int) + (k : Int) + 1 ≤ M ∧ ii = .int .i64 (k : Int) ∧ Tr.okFrom 0 L = true ∧ OwnI w.heap.size wr xv L ∧ IsFeed B wr b (a + 1 + L.length) ∧ Kept (· = b) w wr) (fun _ ii _ => (intOf ii).toNat)
  case atStart => exact ⟨n0, [], by simp; omega, rfl, rfl, OwnI.nil _ hs2, HF1.out, HK1.out⟩
  case round =>
    obtain ⟨k, L, hkL, rfl, hok, hv, hf, hK⟩ := hrel
    obtain ⟨A1, c1, rfl, -, -, -⟩ := hv.reads
    have HV := Lib.hid hv
    have HFd := Lib.hid hf
    have HK := Lib.hid hK
    have HO := Lib.hid hok
    clear hv hf hK hok HF1 HK1
    by_cases h0 : 0 < k
    · have h0' : (0 : Int) < (k : Int) := by omega
      go_wp2_with fail
      refine (next_any ((L.length : Int) + 1) (by omega) (by omega) _ (by omega) HFd.out).mono ?_
      rintro e w2 ⟨u, hu, rfl, hf2, hk2, -⟩
      have HF2 := Lib.hid hf2
      have HV2 := Lib.hid (OwnW.kept HV.out hk2 (fun i hi e => by have := (HV.out.base hi).1; omega))
      have HK2 := Lib.hid (HK.out.then hk2)
      clear hf2 hk2
      go_wp2_with (first | (at_builtin; refine wpList_owni_lies rfl _ _ rfl w.heap.size _ _ rfl HV2.out _ rfl (by omega) ?_; intro gx cx' w3 hv3 hk3 hl3; have HV3 := Lib.hid hv3; have HK3 := Lib.hid hk3; clear hv3 hk3 hl3))
      refine ⟨⟨k - 1, L ++ [(u : Int)], by rw [List.length_append, List.length_singleton]; omega, by simp; omega, Tr.right_snoc HO.out (by omega) (by omega), ?_, ?_, ?_⟩, by simp [intOf]; omega⟩
      · simpa using HV3.out
      · rw [List.length_append]
        refine HF2.out.kept HK3.out (fun e => ?_) (fun i hi e => ?_)
        · have := (OwnI.base HV2.out e).1; omega
        · have := (OwnI.base HV2.out e).1; have := HF2.out.1; omega
      · refine HK2.out.trans HK3.out fun i hi e => ?_
        have := (OwnI.base HV2.out e).1; omega
    · obtain rfl : k = 0 := by omega
      go_wp2_with fail
      go_ret
      exact ⟨_, L, rfl, HV.out, Tr.right_of HO.out (by omega), by omega, HFd.out.more (by omega), HK.out⟩

theorem Ri.block {w : World} {A : Option Addr} {n : Nat} {l : List Int} (h : Ri w A n l) : ∀ ad, A = some ad → n ≠ 0 → ad.block < w.heap.size := by
  intro ad e hn
  obtain ⟨rb, ro, u, e2, -, hc⟩ := h.at_ (j := 0) (by omega)
  rw [e2] at e
  cases e
  exact cell_lt hc
abbrev cfbox (A : Option Addr) (n c : Nat) (x : Cf) : Obj := .cells (cfcells A n c x).toArray 24 (0, 0)
abbrev cf00 : Cf := ⟨[], 0, 0, 0, 0, 0⟩
theorem cf_size : (Try.prog.info? 24).map (·.size) = some 6 := by kernel_rfl
theorem cf_one (A : Option Addr) (n c : Nat) (x : Cf) : ∀ u ∈ cfcells A n c x, u.oneCell' = true := by
  intro u hu
  simp only [cfcells, List.mem_cons, List.not_mem_nil, or_false] at hu
  rcases hu with rfl | rfl | rfl | rfl | rfl | rfl <;> rfl
/-- A part of a config's block is stored to. -/
theorem set_config {w : World} {g p : Nat} {A A' : Option Addr} {n n' c c' : Nat} {x x' : Cf} {cs : List Value} (hp : part (cfcells A n c x) p cs = cfcells A' n' c' x') (hg : w.heap[g]? = some (cfbox A n c x)) : (w.setRow g (part (cfcells A n c x) p cs).toArray).heap[g]? = some (cfbox A' n' c' x') ∧ Kept (· = g) w (w.setRow g (part (cfcells A n c x) p cs).toArray) := by
  rw [hp]
  exact ⟨setRow_heap w g _ _ _ _ hg, Kept.setRow _ _ _⟩
theorem int_size1 : (Try.prog.info? 3).map (·.size) = some 1 := by kernel_rfl
theorem cfbox_cells {w : World} {g : Nat} {A : Option Addr} {n c : Nat} {x : Cf} (h : w.heap[g]? = some (cfbox A n c x)) : ∀ j v, (cfcells A n c x)[j]? = some v → w.cell? ⟨g, 0 + j, none⟩ = some v := cells_row h
/-- What Config tells: one that may be, of at most M brokers. -/
def ConfigPost (M : Int) (B b a : Nat) (w : World) (e : Ending) (w' : World) : Prop :=
  ∃ A c x, e = .returned (cfv A x.par.length c x) ∧ Ri w' A x.par.length x.par ∧ x.check = 0 ∧ (x.par.length : Int) + 1 ≤ M ∧ (∀ ad, A = some ad → x.par.length ≠ 0 → w.heap.size ≤ ad.block) ∧ (A = none → x.par.length = 0 ∧ c = 0) ∧ IsFeed B w' b (a + 20) ∧ Kept (· = b) w w'
theorem Cf.fed {l : List Int} {k1 k2 k3 k4 : Nat} {s : Int} (hl : Tr.right l = true) (h1 : k1 < 4) (h2 : k2 < 3) (h3 : k3 < 8) (h4 : k4 < 4) (hs : 0 ≤ s) (hs2 : s ≤ 4611686018427387904) : (Cf.mk l (1 + k1) (1 + k2) (1 + k3) (1 + k4) s).check = 0 := by
  have hn : (Cf.mk l (1 + k1) (1 + k2) (1 + k3) (1 + k4) s).nums = true := by
    simp only [nums, Bool.and_eq_true, wi_true]
    omega
  unfold check
  rw [if_pos hl, if_pos hn]
/-- How it ends: the result's block holds what was built. -/
theorem config_ends {B b a gr : Nat} {w w9 w10 : World} {A : Option Addr} {c : Nat} {x : Cf} (hgr : gr = w.heap.size) (hx : Ri w9 A x.par.length x.par) (hA : ∀ ad, A = some ad → x.par.length ≠ 0 → w.heap.size < ad.block) (hR : w9.heap[gr]? = some (cfbox none 0 0 cf00)) (hF : IsFeed B w9 b a) (hK : Kept (· = b) w w9) (hb : b < w.heap.size)
    (h10 : w10 = w9.setRow gr (part (cfcells none 0 0 cf00) 0 (cfcells A x.par.length c x)).toArray) : w10.heap[gr]? = some (cfbox A x.par.length c x) ∧ Ri w10 A x.par.length x.par ∧ IsFeed B w10 b a ∧ Kept (· = b) w w10 := by
  subst h10
  subst hgr
  obtain ⟨h1, h2⟩ := set_config (p := 0) (A' := A) (n' := x.par.length) (c' := c) (x' := x) (cs := cfcells A x.par.length c x) rfl hR
  have hB := hF.1
  exact ⟨h1, hx.keep h2 (fun ad e hn e2 => by have := hA ad e hn; omega), hF.kept h2 (by omega) (fun i hi => by omega), hK.trans h2 (fun i hi e => by omega)⟩
set_option maxRecDepth 100000 in
set_option maxHeartbeats 8000000 in
theorem feedconfig_any {B b a : Nat} (M : Int) (hM : 1 ≤ M) (hM8 : M ≤ 8) (w : World) (ha : a < 900000) (hf : IsFeed B w b a) :
    Calls Try.prog 12 #[.pointer (some ⟨b, 0, none⟩), .int .i64 M] w (ConfigPost M B b a w) := by
  have hlt := hf.lt
  have hBb := hf.1
  have HF := Lib.hid hf
  clear hf
  go_enter Try.func12, Try.ntmps12
  go_upto_region 1 with fail
  have hn := new_below w (cfbox none 0 0 cf00)
  have HR0 := Lib.hid (heap_alloc_new w (cfbox none 0 0 cf00))
  have HF0 := Lib.hid (HF.out.below hn)
  have HK0 := Lib.hid (Kept.ofBelow (S := (· = b)) hn)
  have hs0 : w.heap.size < (w.alloc (cfbox none 0 0 cf00)).heap.size := by rw [World.size_alloc]; omega
  clear hn HF
  dsimp only [cfbox, cf00, cfcells] at HR0 HF0 HK0 hs0
  generalize w.alloc _ = w0 at HR0 HF0 HK0 hs0 ⊢
  go_wp2_with fail
  refine (feedtree_most M hM hM8 _ (by omega) HF0.out).mono ?_
  rintro e w1 ⟨v, L, rfl, hv, hL, hLM, hF, hK⟩
  obtain ⟨A, c, rfl, -, hri, hA⟩ := hv.reads
  obtain ⟨A', c', e', -, -, -, -, -, hnil⟩ := OwnW.reads hv
  cases e'
  have HNil := Lib.hid hnil
  clear hnil
  have HL := Lib.hid hL
  have HA : Hid (∀ ad, A = some ad → L.length ≠ 0 → w0.heap.size ≤ ad.block) := Lib.hid fun ad e hn => by
    rcases hA with ⟨e3, -⟩ | ⟨g, e3, hg, -⟩
    · rw [e3] at e; cases e
    · rw [e3] at e; cases e; exact hg
  have HRI1 := Lib.hid hri
  have HF1 := Lib.hid hF
  have HR1 := Lib.hid (hK.rowc HR0.out (by show ¬ w.heap.size = b; omega))
  have HK1 := Lib.hid (HK0.out.then hK)
  clear hF hK hv hL hri hA HF0 HR0 HK0
  go_wp2_with fail
  refine (next_any 4 (by omega) (by omega) _ (by omega) HF1.out).mono ?_
  rintro e w2 ⟨k1, hk1, rfl, hF, hK, -⟩
  have HRI2 := Lib.hid (HRI1.out.keep hK (fun ad e hn e2 => by have := HA.out ad e hn; omega))
  have HF2 := Lib.hid hF
  have HR2 := Lib.hid (hK.rowc HR1.out (by show ¬ w.heap.size = b; omega))
  have HK2 := Lib.hid (HK1.out.then hK)
  clear hF hK HF1 HR1 HK1 HRI1
  go_wp2_with fail
  refine (next_any 3 (by omega) (by omega) _ (by omega) HF2.out).mono ?_
  rintro e w3 ⟨k2, hk2, rfl, hF, hK, -⟩
  have HRI3 := Lib.hid (HRI2.out.keep hK (fun ad e hn e2 => by have := HA.out ad e hn; omega))
  have HF3 := Lib.hid hF
  have HR3 := Lib.hid (hK.rowc HR2.out (by show ¬ w.heap.size = b; omega))
  have HK3 := Lib.hid (HK2.out.then hK)
  clear hF hK HF2 HR2 HK2 HRI2
  go_wp2_with fail
  refine (next_any 8 (by omega) (by omega) _ (by omega) HF3.out).mono ?_
  rintro e w4 ⟨k3, hk3, rfl, hF, hK, -⟩
  have HRI4 := Lib.hid (HRI3.out.keep hK (fun ad e hn e2 => by have := HA.out ad e hn; omega))
  have HF4 := Lib.hid hF
  have HR4 := Lib.hid (hK.rowc HR3.out (by show ¬ w.heap.size = b; omega))
  have HK4 := Lib.hid (HK3.out.then hK)
  clear hF hK HF3 HR3 HK3 HRI3
  go_wp2_with fail
  refine (next_any 4 (by omega) (by omega) _ (by omega) HF4.out).mono ?_
  rintro e w5 ⟨k4, hk4, rfl, hF, hK, -⟩
  have HRI5 := Lib.hid (HRI4.out.keep hK (fun ad e hn e2 => by have := HA.out ad e hn; omega))
  have HF5 := Lib.hid hF
  have HR5 := Lib.hid (hK.rowc HR4.out (by show ¬ w.heap.size = b; omega))
  have HK5 := Lib.hid (HK4.out.then hK)
  clear hF hK HF4 HR4 HK4 HRI4
  have hn := new_below w5 (cfbox A L.length c ⟨L, 1 + (k1 : Int), 1 + (k2 : Int), 1 + (k3 : Int), 1 + (k4 : Int), 0⟩)
  have HE6 := Lib.hid (heap_alloc_new w5 (cfbox A L.length c ⟨L, 1 + (k1 : Int), 1 + (k2 : Int), 1 + (k3 : Int), 1 + (k4 : Int), 0⟩))
  have HF6 := Lib.hid (HF5.out.below hn)
  have HR6 := Lib.hid (below_row hn HR5.out)
  have HK6 := Lib.hid (HK5.out.then (Kept.ofBelow (S := (· = b)) hn))
  have HRI6 := Lib.hid (HRI5.out.later hn)
  have hs5 := (Array.getElem?_eq_some_iff.1 HR5.out).1
  have hAg := HRI5.out.block
  clear hn HF5 HR5 HK5 HRI5
  dsimp only [cfbox, cfcells] at HE6 HF6 HR6 HK6 HRI6
  go_upto_region 2 with fail
  have hge : w5.heap.size < (w5.alloc (.cells #[.slice A L.length c, .int .i64 (1 + (k1 : Int)), .int .i64 (1 + (k2 : Int)), .int .i64 (1 + (k3 : Int)), .int .i64 (1 + (k4 : Int)), .int .i64 0] 24)).heap.size := by rw [World.size_alloc]; omega
  generalize w5.alloc _ = w6 at HE6 HF6 HR6 HK6 HRI6 hge ⊢
  have HAG : Hid (∀ ad, A = some ad → L.length ≠ 0 → ad.block < w5.heap.size) := Lib.hid hAg
  clear hAg
  have hs5' := HK6.out.size
  generalize w5.heap.size = ge at HE6 hge hs5 HAG ⊢
  go_wp2_with fail
  refine (next_any 5 (by omega) (by omega) _ (by omega) HF6.out).mono ?_
  rintro e w7 ⟨k5, hk5, rfl, hF, hK, -⟩
  have HRI7 := Lib.hid (HRI6.out.keep hK (fun ad e hn e2 => by have := HA.out ad e hn; omega))
  have HF7 := Lib.hid hF
  have HR7 := Lib.hid (hK.rowc HR6.out (by show ¬ w.heap.size = b; omega))
  have HE7 := Lib.hid (hK.rowc HE6.out (by show ¬ ge = b; omega))
  have HK7 := Lib.hid (HK6.out.then hK)
  clear hF hK HF6 HR6 HK6 HRI6 HE6
  by_cases h5 : k5 = 0
  · subst h5
    go_wp2_with fail
    refine (next_any 4 (by omega) (by omega) _ (by omega) HF7.out).mono ?_
    rintro e w8 ⟨k6, hk6, rfl, hF, hK, -⟩
    have HRI8 := Lib.hid (HRI7.out.keep hK (fun ad e hn e2 => by have := HA.out ad e hn; omega))
    have HF8 := Lib.hid hF
    have HR8 := Lib.hid (hK.rowc HR7.out (by show ¬ w.heap.size = b; omega))
    have HE8 := Lib.hid (hK.rowc HE7.out (by show ¬ ge = b; omega))
    have HK8 := Lib.hid (HK7.out.then hK)
    clear hF hK HF7 HR7 HK7 HRI7 HE7
    obtain ⟨he1, he2⟩ := set_config (w := w8) (g := ge) (p := 5) (A := A) (n := L.length) (c := c) (x := ⟨L, 1 + (k1 : Int), 1 + (k2 : Int), 1 + (k3 : Int), 1 + (k4 : Int), 0⟩) (A' := A) (n' := L.length) (c' := c) (x' := ⟨L, 1 + (k1 : Int), 1 + (k2 : Int), 1 + (k3 : Int), 1 + (k4 : Int), 4611686018427387904 - (k6 : Int)⟩) (cs := [.int .i64 (4611686018427387904 - (k6 : Int))]) rfl HE8.out
    have HE9 := Lib.hid he1
    have HS9 := Lib.hid he2
    clear he1 he2
    go_upto_region 4 with (first | (refine wpList_store_part rfl 3 _ _ rfl ge 5 _ [.int .i64 (4611686018427387904 - (k6 : Int))] rfl rfl rfl 24 (cfcells A L.length c ⟨L, 1 + (k1 : Int), 1 + (k2 : Int), 1 + (k3 : Int), 1 + (k4 : Int), 0⟩) HE8.out int_size1 (show (6 : Nat) ≤ 6 by decide) (fun u hu => by rw [List.mem_singleton.1 hu]; rfl) ?_; generalize World.setRow w8 _ _ = w9 at HE9 HS9 ⊢))
    have QR := Lib.hid (HS9.out.rowc HR8.out (by show ¬ w.heap.size = ge; omega))
    have QF := Lib.hid (HF8.out.kept HS9.out (by omega) (fun i hi => by omega))
    have QK := Lib.hid (HK8.out.trans HS9.out (fun i hi e => by omega))
    have QI := Lib.hid (HRI8.out.keep HS9.out (fun ad e hn e2 => by have := HAG.out ad e hn; omega))
    have QE := HE9
    clear HF8 HR8 HE8 HK8 HRI8 HS9 HE9
    have HC := Lib.hid (cfbox_cells QE.out)
    have HEN := Lib.hid (config_ends (w10 := w9.setRow w.heap.size (part (cfcells none 0 0 cf00) 0 (cfcells A L.length c ⟨L, 1 + (k1 : Int), 1 + (k2 : Int), 1 + (k3 : Int), 1 + (k4 : Int), 4611686018427387904 - (k6 : Int)⟩)).toArray) (x := ⟨L, 1 + (k1 : Int), 1 + (k2 : Int), 1 + (k3 : Int), 1 + (k4 : Int), 4611686018427387904 - (k6 : Int)⟩) rfl QI.out (fun ad e hn => by have := HA.out ad e hn; omega) QR.out QF.out QK.out hlt rfl)
    go_wp2_with (first | (refine wpList_load_at rfl 24 _ rfl ge 0 (cfcells A L.length c ⟨L, 1 + (k1 : Int), 1 + (k2 : Int), 1 + (k3 : Int), 1 + (k4 : Int), 4611686018427387904 - (k6 : Int)⟩) _ rfl HC.out Try.underlying24 rfl cf_size ?_; dsimp only [cfcells]) | (refine wpList_store_part rfl 24 _ _ rfl w.heap.size 0 _ (cfcells A L.length c ⟨L, 1 + (k1 : Int), 1 + (k2 : Int), 1 + (k3 : Int), 1 + (k4 : Int), 4611686018427387904 - (k6 : Int)⟩) rfl rfl rfl 24 (cfcells none 0 0 cf00) QR.out cf_size (Nat.le_refl 6) (cf_one _ _ _ _) ?_; generalize World.setRow w9 _ _ = wz at HEN ⊢) | fail)
    obtain ⟨g1, g2, g3, g4⟩ := HEN.out
    refine bodyPost_ret (results_cell_row rfl _ _ _ _ _ _ _ rfl g1 Try.underlying24 rfl (by kernel_rfl)) rfl ?_
    exact ⟨A, c, ⟨L, 1 + (k1 : Int), 1 + (k2 : Int), 1 + (k3 : Int), 1 + (k4 : Int), 4611686018427387904 - (k6 : Int)⟩, rfl, g2, Cf.fed HL.out (by omega) (by omega) (by omega) (by omega) (by omega) (by omega), hLM, fun ad e hn => by have := HA.out ad e hn; omega, HNil.out, g3.more (by omega), g4⟩
  · have h5' : ¬ (k5 : Int) = 0 := by omega
    have QR := HR7
    have QF := HF7
    have QK := HK7
    have QI := HRI7
    have QE := HE7
    clear HR7 HF7 HK7 HRI7 HE7
    have HC := Lib.hid (cfbox_cells (x := ⟨L, 1 + (k1 : Int), 1 + (k2 : Int), 1 + (k3 : Int), 1 + (k4 : Int), 0⟩) QE.out)
    have HEN := Lib.hid (config_ends (w10 := w7.setRow w.heap.size (part (cfcells none 0 0 cf00) 0 (cfcells A L.length c ⟨L, 1 + (k1 : Int), 1 + (k2 : Int), 1 + (k3 : Int), 1 + (k4 : Int), 0⟩)).toArray) (x := ⟨L, 1 + (k1 : Int), 1 + (k2 : Int), 1 + (k3 : Int), 1 + (k4 : Int), 0⟩) rfl QI.out (fun ad e hn => by have := HA.out ad e hn; omega) QR.out QF.out QK.out hlt rfl)
    go_wp2_with (first | (refine wpList_load_at rfl 24 _ rfl ge 0 (cfcells A L.length c ⟨L, 1 + (k1 : Int), 1 + (k2 : Int), 1 + (k3 : Int), 1 + (k4 : Int), 0⟩) _ rfl HC.out Try.underlying24 rfl cf_size ?_; dsimp only [cfcells]) | (refine wpList_store_part rfl 24 _ _ rfl w.heap.size 0 _ (cfcells A L.length c ⟨L, 1 + (k1 : Int), 1 + (k2 : Int), 1 + (k3 : Int), 1 + (k4 : Int), 0⟩) rfl rfl rfl 24 (cfcells none 0 0 cf00) QR.out cf_size (Nat.le_refl 6) (cf_one _ _ _ _) ?_; generalize World.setRow w7 _ _ = wz at HEN ⊢) | fail)
    obtain ⟨g1, g2, g3, g4⟩ := HEN.out
    refine bodyPost_ret (results_cell_row rfl _ _ _ _ _ _ _ rfl g1 Try.underlying24 rfl (by kernel_rfl)) rfl ?_
    exact ⟨A, c, ⟨L, 1 + (k1 : Int), 1 + (k2 : Int), 1 + (k3 : Int), 1 + (k4 : Int), 0⟩, rfl, g2, Cf.fed HL.out (by omega) (by omega) (by omega) (by omega) (by omega) (by omega), hLM, fun ad e hn => by have := HA.out ad e hn; omega, HNil.out, g3.more (by omega), g4⟩
end Go.Proofs.Ytegkphbnedbgfaa
