
/- FilterTells: the walk. -/
import Derived.Test.YtfbfbajccphkoaaGreatFilterReduces
import Derived.Test.YtfbfbajccphkoaaGreatOpenPrds
namespace Go.Proofs.YtfbfbajccphkoaaGreat
open Go.RowKit
set_option linter.unusedVariables false

/-- Two more behind. -/
theorem fls_two {B b a M : Nat} {w wx w' : World} {A : Option Addr} {c : Nat} {L : List Ft} {F G : Ft} {v' : Value}
    (own : OwnF w.heap.size wx (.slice A L.length c) L) (each : ∀ f, f ∈ L → El B b M wx f) (hF : El B b M wx F) (hG : El B b M wx G) (feed : IsFeed B wx b a) (kept : Kept (· = b) w wx) (hb : b < w.heap.size) (hB : B ≤ b)
    (hO : OwnW 1 w.heap.size 22 w' v' (L.length + 2) (fflat L ++ fflat [F, G])) (hK : Kept (fun i => (Value.slice A L.length c).ownBlock = some i) (wx.alloc (.cells #[.slice F.A F.l.length F.c, .slice G.A G.l.length G.c] 22)) w') :
    OwnF w.heap.size w' v' (L ++ [F, G]) ∧ (∀ f, f ∈ L ++ [F, G] → El B b M w' f) ∧ IsFeed B w' b a ∧ Kept (· = b) w w' := by
  have hn := one_new wx (.cells #[.slice F.A F.l.length F.c, .slice G.A G.l.length G.c] 22)
  have base : ∀ i, (Value.slice A L.length c).ownBlock = some i → w.heap.size ≤ i := fun i hi => ownw_base own i hi
  have own1 := own.later hn
  have apart : ∀ f : Ft, El B b M wx f → El B b M w' f := fun f hf => (hf.later hn).kept hK (fun i hi e => by
    have := base i e
    rcases ((hf.later hn).at_ i hi).2 with h2 | ⟨cs, t, fr, h2, h3⟩
    · omega
    · obtain ⟨cs', h4⟩ := ownw_cells own1 i e
      rw [h4] at h2
      cases h2
      exact h3 rfl)
  refine ⟨?_, fun f hf => ?_, ?_, (kept.then (Kept.ofBelow hn)).trans hK (fun i hi e => by have := base i e; omega)⟩
  · unfold OwnF
    rw [List.length_append, fflat_add]
    exact hO
  · rcases List.mem_append.1 hf with hf | hf
    · exact apart f (each f hf)
    · rcases List.mem_cons.1 hf with rfl | hf
      · exact apart _ hF
      · rw [List.mem_singleton.1 hf]; exact apart _ hG
  · exact (feed.below hn).kept hK (fun e => by have := base _ e; omega) (fun i hi e => by have := base i e; omega)

theorem tmod_nat (i n : Nat) : ((i : Int) + 1).tmod (n : Int) = (((i + 1) % n : Nat) : Int) := rfl

set_option maxRecDepth 100000 in
set_option maxHeartbeats 16000000 in
theorem ftells_walk (R : Ft) (Ao : Option Addr) (no co : Nat) (lo : List Att) (L0 : Option Addr) (len cap : Nat) (w : World) (hR : IsRaw w.heap.size 2932031007317 w R) (hA : IsAtts w Ao no co lo) (hfo : ∀ a, a ∈ lo → Fit a.v) (hd : Draws w.heap.size w L0 len) :
    Calls Tryz.prog 3 #[.slice R.A R.l.length R.c, .slice Ao no co, .slice L0 len cap] w fun e w' => e = .returned (.bool true) ∧ Below w.heap.size w w' := by
  have hF0 := Lib.hid (feed_new (cap := cap) hd 27)
  have HB0 := Lib.hid (one_new w (.cells #[.slice L0 len cap, .int .i64 0] 27))
  have HR0 := Lib.hid (hR.later HB0.out)
  have HO0 := Lib.hid (hA.reads.later HB0.out)
  have HSp : Hid (∀ x, Ao = some x → x.spot = none ∧ x.block < w.heap.size) := hA.spot
  have hroom := hA.room
  have HNo := Lib.hid hA.none_
  have HFo := Lib.hid hfo
  have hgt : w.heap.size < (w.alloc (.cells #[.slice L0 len cap, .int .i64 0] 27)).heap.size := by simp
  clear hd hR hA hfo
  have hst := store_float
  generalize hb : w.heap.size = b at hF0 HB0 HR0 HO0 HSp hgt ⊢
  have HEQ := Lib.hid hb
  have HEQ2 := Lib.hid hb
  clear hb
  go_enter Tryz.func3, Tryz.ntmps3
  go_wp2_with fail
  rw [HEQ.out]
  clear HEQ
  generalize w.alloc (.cells #[.slice L0 len cap, .int .i64 0] 27) = w0 at hF0 HB0 HR0 HO0 hgt ⊢
  refine (filters_any (B := b) (b := b) (a := 0) (M := 2932031007317) 2 (by omega) (by omega) (by omega) (by omega) _ (by omega) hF0.out HR0.out).mono ?_
  rintro e w1 ⟨A, c, L, rfl, hn, hO, hE, hF, hK⟩
  have h2 : L.length ≤ 2 := by omega
  have HO := Lib.hid hO
  have HE := Lib.hid hE
  have HF1 : Hid (IsFeed b w1 b 121) := hF.more (by omega)
  have HK := Lib.hid hK
  clear hF0 HR0 hn hO hE hF hK
  go_wp2_with fail
  refine (feedfilter_any (a := 121) _ (by omega) HF1.out).mono ?_
  rintro e w2 ⟨F, rfl, hfine, hown, hF, hK⟩
  have hC : b < w1.heap.size := by have := HK.out.size; omega
  have HEF : Hid (El b b 2932031007317 w2 F) := hown.el hC hfine.fits (by have := hfine.few; omega) (fun x hx => by have := (hfine.fed x hx).2.few; omega)
  have HO2 := Lib.hid (HO.out.kept hK (ownw_apart HO.out hgt))
  have HE2 : Hid (∀ f, f ∈ L → El b b 2932031007317 w2 f) := fun f hf => (HE.out f hf).fed hK
  have HF2 : Hid (IsFeed b w2 b 155) := hF.more (by omega)
  have HK2 := Lib.hid (HK.out.then hK)
  clear hfine hown hF hK HO HE HF1 HK hC
  go_wp2_with fail
  refine (feedfilter_any (a := 155) _ (by omega) HF2.out).mono ?_
  rintro e w3 ⟨G, rfl, hfine, hown, hF, hK⟩
  have hC : b < w2.heap.size := by have := HK2.out.size; omega
  have HEG : Hid (El b b 2932031007317 w3 G) := hown.el hC hfine.fits (by have := hfine.few; omega) (fun x hx => by have := (hfine.fed x hx).2.few; omega)
  have HO3 := Lib.hid (HO2.out.kept hK (ownw_apart HO2.out hgt))
  have HE3 : Hid (∀ f, f ∈ L → El b b 2932031007317 w3 f) := fun f hf => (HE2.out f hf).fed hK
  have HEF3 := Lib.hid (HEF.out.fed hK)
  have HF3 : Hid (IsFeed b w3 b 189) := hF.more (by omega)
  have HK3 := Lib.hid (HK2.out.then hK)
  clear hfine hown hF hK HO2 HE2 HEF HF2 HK2 hC
  go_upto_region 3 with (first | (at_builtin; refine wpList_ownw (k := 1) rfl _ _ 28 rfl Tryz.underlying28 fil_info rfl (by decide) w0.heap.size _ L.length (fflat L) rfl (HO3.out.later (one_new _ _)) _ 2 2 rfl (fun h => by cases h) (fflat [F, G]) (new_fts w3 [F, G]) (fflat_one _) (by omega) (by decide) ?_; intro v4 w4 hO4 hK4; have HT := Lib.hid (fls_two HO3.out HE3.out HEF3.out HEG.out HF3.out HK3.out hgt (Nat.le_refl _) hO4 hK4); clear hO4 hK4))
  obtain ⟨A4, c4, rfl, -⟩ := HT.out.1.reads
  have hlen : (L ++ [F, G]).length = L.length + 2 := by simp
  clear HO3 HE3 HEF3 HEG HF3 HK3
  generalize L ++ [F, G] = all at HT hlen ⊢
  have h4 : all.length ≤ 4 := by omega
  have h0 : 0 < all.length := by omega
  have HE4 := Lib.hid HT.out.2.1
  have HF4 := Lib.hid HT.out.2.2.1
  have HK4 := Lib.hid HT.out.2.2.2
  have HFS : Hid (Fs w4 A4 all.length all) := by
    obtain ⟨A', c', e, -, -, hr, -, -, -⟩ := HT.out.1.reads
    cases e
    exact ⟨hr, fun f hf => (HE4.out f hf).is, by omega⟩
  have HFO : Hid (OwnF w0.heap.size w4 (.slice A4 all.length c4) all) := HT.out.1
  clear HT
  clear hlen
  go_wp2_with fail
  refine (feedattrs_any (a := 189) _ (by omega) HF4.out).mono ?_
  rintro e w5 ⟨va, a, rfl, hfed, hoa, hF, hK⟩
  obtain ⟨Aa, ca, rfl, -⟩ := hoa.reads
  have HFit := Lib.hid hfed.fits
  have HA5 := Lib.hid (OwnW.ats hoa hfed.small)
  have hC : b < w4.heap.size := by have := HK4.out.size; omega
  have HAx : Hid (∀ x, Aa = some x → ¬ x.block = b) := fun x e => own_apart hoa hC x.block (by rw [e]; rfl)
  have HE5 : Hid (∀ f, f ∈ all → El b b 2932031007317 w5 f) := fun f hf => (HE4.out f hf).fed hK
  have HFO5 := Lib.hid (HFO.out.kept hK (ownw_apart HFO.out hgt))
  have HF5 : Hid (IsFeed b w5 b 204) := hF.more (by omega)
  have HK5 := Lib.hid (HK4.out.then hK)
  clear hfed hoa hF hK HE4 HF4 HK4 HFS HFO hC
  go_wp2_with fail
  refine (next_any (a := 204) 8 (by omega) (by omega) _ (by omega) HF5.out).mono ?_
  rintro e w6 ⟨k, hk, rfl, hF6, hK6, hs6⟩
  have HE6 : Hid (∀ f, f ∈ all → El b b 2932031007317 w6 f) := fun f hf => (HE5.out f hf).fed hK6
  have hFO6 := HFO5.out.kept hK6 (ownw_apart HFO5.out hgt)
  have HFS : Hid (Fs w6 A4 all.length all) := by
    obtain ⟨A', c', e, -, -, hr, -, -, -⟩ := hFO6.reads
    cases e
    exact ⟨hr, fun f hf => (HE6.out f hf).is, by omega⟩
  have HA6 := Lib.hid (HA5.out.kept hK6 HAx.out)
  have hK60 := HK5.out.then hK6
  have HO6 := Lib.hid (HO0.out.kept hK60 (fun x e => by have := (HSp.out x e).2; omega))
  have HB6 : Hid (Below b w w6) := HB0.out.trans (hK60.below (HEQ2.out ▸ HB0.out.size) (by intro i hi e; omega))
  clear hF6 hK6 hs6 hFO6 hK60 HA5 HE5 HFO5 HF5 HK5 HAx HO0 HB0
  have HSm : Hid (∀ f, f ∈ all → (f.l.length ≤ 1000 ∧ ∀ x, x ∈ f.l → x.p.set.length ≤ 2932031007317) ∧ ∀ p, p ∈ Fi.tests f → Pd.Fits p) := fun f hf => ⟨⟨by have := (HE6.out f hf).few; omega, fun x hx => (HE6.out f hf).small x hx⟩, (HE6.out f hf).fits⟩
  clear HE6
  go_upto_if 29 with fail
  go_cut [9] (fun s9 wx => ∃ (A9 : Option Addr) (n9 c9 : Nat) (a9 : List Att), s9 = .slice A9 n9 c9 ∧ Ats wx A9 n9 a9 ∧ (∀ x, x ∈ a9 → Fit x.v) ∧ Fs wx A4 all.length all ∧ Below b w wx)
  case first =>
    by_cases hk0 : (k : Int) = 0
    · have HX : Hid (∀ m, m ≤ lo.length → ∃ (A9 : Option Addr) (n9 c9 : Nat) (a9 : List Att), Value.slice Ao m co = .slice A9 n9 c9 ∧ Ats w6 A9 n9 a9 ∧ (∀ x, x ∈ a9 → Fit x.v) ∧ Fs w6 A4 all.length all ∧ Below b w w6) := fun m hm => ⟨Ao, m, co, lo.take m, rfl, ⟨HO6.out.row.take hm, fun x hx => HO6.out.names x (List.mem_of_mem_take hx), by have := HO6.out.few; have := HO6.out.len; omega⟩, fun x hx => HFo.out x (List.mem_of_mem_take hx), HFS.out, HB6.out⟩
      obtain rfl : lo.length = no := HO6.out.len
      have hfew := HO6.out.few
      clear HA6 HO6 HFS HB6 HFit HSm HFo
      rcases Ao with - | ⟨gr, orr, sp⟩
      · obtain ⟨h1, rfl⟩ := HNo.out rfl
        obtain rfl : lo = [] := List.eq_nil_of_length_eq_zero h1
        go_wp2_with fail
        go_meet
        exact HX.out 0 (by simp)
      · obtain rfl : sp = none := (HSp.out _ rfl).1
        by_cases hm : (lo.length : Int) ≤ 6
        · go_wp2_with fail
          go_meet
          exact HX.out lo.length (by omega)
        · have h6 : 6 ≤ co := by omega
          go_wp2_with fail
          go_meet
          exact HX.out 6 (by omega)
    · go_wp2_with fail
      go_meet
      exact ⟨_, _, _, _, rfl, HA6.out, HFit.out, HFS.out, HB6.out⟩
  case rest =>
  obtain ⟨A9, n9, c9, a9, rfl, ha9, hf9, hfs, hb9⟩ := hcut
  clear HA6 HO6 HFS HB6 HFit HFo HNo HSp
  have HA := Lib.hid ha9
  have HFit := Lib.hid hf9
  have HFS := Lib.hid hfs
  have HB : Hid (Below w.heap.size w wc) := Lib.hid (by rw [← HEQ2.out] at hb9; exact hb9)
  clear ha9 hf9 hfs hb9
  generalize wc = w7 at HA HFS HB ⊢
  go_wp2_with fail
  go_loopw [10] (fun ii wr => ∃ i : Nat, i ≤ all.length ∧ ii = .int .i64 (i : Int) ∧ Below w7.heap.size w7 wr) (fun ii _ => all.length - (intOf ii).toNat)
  case atStart => exact ⟨0, by omega, rfl, Below.refl _ _⟩
  case round =>
    obtain ⟨i, hi, rfl, hB⟩ := hrel
    have HBi := Lib.hid hB
    clear hB
    have ui : IntKind.i64.wrap ((i : Int) + 1) = (i : Int) + 1 := IntWalk.i64_in _ (by omega)
    by_cases hlt : i < all.length
    · have hq : (i + 1) % all.length < all.length := Nat.mod_lt _ h0
      have hrem := tmod_nat i all.length
      have hz : (all.length : Int) ≠ 0 := by omega
      generalize (i + 1) % all.length = q at hq hrem
      obtain ⟨g, o, f, rfl, hf, hif, hcf⟩ := HFS.out.cells HBi.out hlt
      obtain ⟨g', o', f', e, hf', hif', hcf'⟩ := HFS.out.cells HBi.out hq
      cases e
      have hsm := HSm.out f (List.mem_of_getElem? hf)
      have HAi := Lib.hid (HA.out.later HBi.out)
      have K1 := Lib.hid (fun wx (h : Below wr.heap.size wr wx) => fright_any (c := f.c) (hif.later h).ps)
      have K2 := Lib.hid (fun wx (h : Below wr.heap.size wr wx) => rfright_any (c := f.c) (hif.later h).ps)
      have K3 := Lib.hid (fun wx (h : Below wr.heap.size wr wx) => ftakes_any (c := f.c) (c' := c9) (hif.later h).ps (HAi.out.later h) HFit.out)
      have K4 := Lib.hid (fun wx (h : Below wr.heap.size wr wx) => rftakes_any (c := f.c) (c' := c9) (hif.later h).ps (HAi.out.later h) HFit.out)
      have K5 := Lib.hid (fun wx (h : Below wr.heap.size wr wx) => fsame_any (c := f.c) (c' := f'.c) (hif.later h).ps (hif'.later h).ps)
      have K6 := Lib.hid (fun wx (h : Below wr.heap.size wr wx) => rfsame_any (c := f.c) (c' := f'.c) (hif.later h).ps (hif'.later h).ps)
      have K7 := Lib.hid (fun wx (h : Below wr.heap.size wr wx) => covers_any (c := f.c) (c' := f'.c) (hif.later h).ps (hif'.later h).ps)
      have K8 := Lib.hid (fun wx (h : Below wr.heap.size wr wx) => rfcovers_any (c := f.c) (c' := f'.c) (hif.later h).ps (hif'.later h).ps)
      have K9 := Lib.hid (fun wx (h : Below wr.heap.size wr wx) => fcopy_any (c := f.c) (hif.later h).ps hsm.1.1 hsm.1.2)
      have HIF := Lib.hid hif
      have HFits := Lib.hid hsm.2
      clear hf hf' hif hif' hsm HAi
      generalize Fi.right f.l = b1 at K1 K2
      generalize Fi.takes f.l a9 = b2 at K3 K4
      generalize Fi.same f.l f'.l = b3 at K5 K6
      generalize Fi.covers f.l f'.l = b4 at K7 K8
      have t1 : (b1 != b1) = false := by cases b1 <;> rfl
      have t2 : (b2 != b2) = false := by cases b2 <;> rfl
      have t3 : (b3 != b3) = false := by cases b3 <;> rfl
      have t4 : (b4 != b4) = false := by cases b4 <;> rfl
      go_wp2_with fail
      refine (K1.out _ (Below.refl _ _)).mono ?_
      rintro e x1 ⟨rfl, hb1⟩
      have X1 := Lib.hid hb1
      clear hb1 K1 hcf hcf'
      go_wp2_with fail
      refine (K2.out _ X1.out).mono ?_
      rintro e x2 ⟨rfl, hb1⟩
      have X2 := Lib.hid (below_then X1.out hb1)
      clear hb1 K2 X1
      go_wp2_with fail
      refine (K3.out _ X2.out).mono ?_
      rintro e x3 ⟨rfl, hb1⟩
      have X3 := Lib.hid (below_then X2.out hb1)
      clear hb1 K3 X2
      go_wp2_with fail
      refine (K4.out _ X3.out).mono ?_
      rintro e x4 ⟨rfl, hb1⟩
      have X4 := Lib.hid (below_then X3.out hb1)
      clear hb1 K4 X3
      go_wp2_with fail
      refine (K5.out _ X4.out).mono ?_
      rintro e x5 ⟨rfl, hb1⟩
      have X5 := Lib.hid (below_then X4.out hb1)
      clear hb1 K5 X4
      go_wp2_with fail
      refine (K6.out _ X5.out).mono ?_
      rintro e x6 ⟨rfl, hb1⟩
      have X6 := Lib.hid (below_then X5.out hb1)
      clear hb1 K6 X5
      go_wp2_with fail
      refine (K7.out _ X6.out).mono ?_
      rintro e x7 ⟨rfl, hb1⟩
      have X7 := Lib.hid (below_then X6.out hb1)
      clear hb1 K7 X6
      go_wp2_with fail
      refine (K8.out _ X7.out).mono ?_
      rintro e x8 ⟨rfl, hb1⟩
      have X8 := Lib.hid (below_then X7.out hb1)
      clear hb1 K8 X7
      go_wp2_with fail
      refine (K9.out _ X8.out).mono ?_
      rintro e x9 hpost
      obtain ⟨Z, rfl, hZt, hZo, hb1⟩ := hpost.own
      have hZs : Fi.same Z.l f.l = true := Fi.same_tests hZt
      have hZi : IsFt x9 Z := hZo.is (by rw [hZt]; exact HFits.out)
      have X9 := Lib.hid (below_then X8.out hb1)
      have KZ := Lib.hid (hZs ▸ rfsame_any (c := Z.c) (c' := f.c) hZi.ps (HIF.out.later X9.out).ps)
      clear hb1 K9 X8 hpost hZt hZo hZs hZi
      dsimp only [Ft.v]
      go_wp2_with fail
      refine KZ.out.mono ?_
      rintro e x10 ⟨rfl, hb1⟩
      have X10 := Lib.hid (below_then X9.out hb1)
      clear hb1 KZ X9
      go_wp2_with fail
      exact ⟨⟨i + 1, by omega, rfl, below_then HBi.out X10.out⟩, by simp [intOf]; omega⟩
    · have HB8 := Lib.hid (below_then HB.out HBi.out)
      have HA8 := Lib.hid (HA.out.later HBi.out)
      have HFS8 := Lib.hid (HFS.out.later HBi.out)
      clear HA HFS HB HBi
      go_wp2_with fail
      refine (known_any _).mono ?_
      rintro e x1 ⟨rfl, hb1⟩
      have HB9 := Lib.hid (below_then HB8.out hb1)
      have HA9 := Lib.hid (HA8.out.later hb1)
      have HFS9 := Lib.hid (HFS8.out.later hb1)
      clear hb1 HA8 HFS8 HB8
      go_wp2_with fail
      refine (fany_any HFS9.out HA9.out HFit.out).mono ?_
      rintro e x2 ⟨rfl, hb1⟩
      have HB10 := Lib.hid (below_then HB9.out hb1)
      have HA10 := Lib.hid (HA9.out.later hb1)
      have HFS10 := Lib.hid (HFS9.out.later hb1)
      clear hb1 HA9 HFS9 HB9
      go_wp2_with fail
      refine (rfany_any HFS10.out HA10.out HFit.out).mono ?_
      rintro e x3 ⟨rfl, hb1⟩
      have HB11 := Lib.hid (below_then HB10.out hb1)
      clear hb1 HA10 HFS10 HB10
      generalize Fi.any all a9 = t
      have htt : (t == t) = true := beq_self_eq_true _
      go_wp2_with fail
      go_ret
      exact ⟨rfl, by have h1 := HB11.out; rw [HEQ2.out] at h1; exact h1⟩
theorem ftells_below (w : World) (R : Ft) (hR : IsRaw w.heap.size 2932031007317 w R) (Ao : Option Addr) (no co : Nat) (lo : List Att) (hA : IsAtts w Ao no co lo ∧ ∀ a, a ∈ lo → Fit a.v) (A : Option Addr) (len cap : Nat) (zs : List Int) (hr : IsRow .i64 w A len cap zs) :
    Calls Tryz.prog 3 #[.slice R.A R.l.length R.c, .slice Ao no co, .slice A len cap] w fun e w' => e = .returned (.bool true) ∧ Below w.heap.size w w' := ftells_walk R Ao no co lo A len cap w hR hA.1 hA.2 hr.draws
end Go.Proofs.YtfbfbajccphkoaaGreat
