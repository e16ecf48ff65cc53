
/- FilterKeeps: the walk. -/
import Derived.Test.YtfbfbajccphkoaaFilters
import Derived.Test.YtfbfbajccphkoaaFilFacts
import Derived.Test.YtfbfbajccphkoaaLater
namespace Go.Proofs.Ytfbfbajccphkoaa
open Go.RowKit
set_option linter.unusedVariables false

theorem feed_new_low {B : Nat} {w : World} {a : Option Addr} {len cap : Nat} (h : Draws B w a len) (hB : B ≤ w.heap.size) (t : TypeId) : IsFeed B (w.alloc (.cells #[.slice a len cap, .int .i64 0] t)) w.heap.size 0 := by
  refine ⟨hB, a, len, cap, 0, Nat.le_refl _, by simp, by simp, by simp, ?_⟩
  exact h.kept (S := fun _ => False) (Kept.alloc _ w _) hB (fun _ _ => id)
theorem draws_low {B : Nat} {w w' : World} {a : Option Addr} {len : Nat} (h : Draws B w a len) (k : Below B w w') (hB : B ≤ w.heap.size) : Draws B w' a len := by
  refine ⟨h.1, fun hn => ?_⟩
  obtain ⟨rb, ro, e, hrb, hc⟩ := h.2 hn
  refine ⟨rb, ro, e, hrb, fun i hi => ?_⟩
  obtain ⟨v, hv⟩ := hc i hi
  exact ⟨v, by rw [k.cell (p := ⟨rb, _, none⟩) hrb]; exact hv⟩
/-- The filters and the row. -/
structure Kps (W : World) (A A' : Option Addr) (L M : List Ft) : Prop where
  l : Fs W A L.length L
  m : Fs W A' M.length M
  few : L.length ≤ 7
  less : M.length ≤ L.length
  some_ : 0 < L.length → 0 < M.length
  any_ : ∀ a, Fi.any M a = Fi.any L a
  apart : ∀ (i k : Nat) (f g : Ft), M[i]? = some f → M[k]? = some g → i ≠ k → Fi.covers f.l g.l = false
theorem Kps.later {W W' : World} {A A' : Option Addr} {L M : List Ft} (h : Kps W A A' L M) (k : Below W.heap.size W W') : Kps W' A A' L M :=
  ⟨h.l.later k, h.m.later k, h.few, h.less, h.some_, h.any_, h.apart⟩
theorem tests_at {L M : List Ft} (h : M.map Fi.tests = L.map Fi.tests) {i : Nat} {f : Ft} (hf : M[i]? = some f) : ∃ g, L[i]? = some g ∧ Fi.tests g = Fi.tests f := by
  have h1 : (M.map Fi.tests)[i]? = some (Fi.tests f) := by rw [List.getElem?_map, hf]; rfl
  rw [h, List.getElem?_map] at h1
  cases hg : L[i]? with
  | none => rw [hg] at h1; cases h1
  | some g => rw [hg] at h1; exact ⟨g, rfl, Option.some.inj h1⟩
theorem Kps.of {W : World} {A A' : Option Addr} {L M : List Ft} (hl : Fs W A L.length L) (hm : Fs W A' M.length M) (h7 : L.length ≤ 7) (ht : M.map Fi.tests = (Fi.reduce L).map Fi.tests) : Kps W A A' L M := by
  have hlen : M.length = (Fi.reduce L).length := by have := congrArg List.length ht; simpa using this
  refine ⟨hl, hm, h7, by rw [hlen]; exact Fi.reduce_len L, fun h => by rw [hlen]; exact Fi.reduce_some h, fun a => ?_, fun i k f g hf hg hn => ?_⟩
  · rw [Fi.any_t, ht, ← Fi.any_t, Fi.any_reduce]
  · obtain ⟨f', hf', e1⟩ := tests_at ht hf
    obtain ⟨g', hg', e2⟩ := tests_at ht hg
    have := Fi.apart_at (Fi.apart_reduce L) hf' hg' hn
    rw [Fi.covers_t] at this ⊢
    rw [show f.l.map (·.p) = f'.l.map (·.p) from e1.symm, show g.l.map (·.p) = g'.l.map (·.p) from e2.symm]
    exact this
theorem El.fits {B b M : Nat} {w : World} {f : Ft} (h : El B b M w f) : ∀ p, p ∈ Fi.tests f → Pd.Fits p := by
  intro p hp
  obtain ⟨x, hx, rfl⟩ := List.mem_map.1 hp
  exact (h.is.ps.each x hx).is.fits

set_option maxRecDepth 100000 in
set_option maxHeartbeats 16000000 in
set_option pp.deepTerms true in
set_option pp.maxSteps 10000000 in
theorem fkeeps_walk (L0 : Option Addr) (len cap : Nat) (M0 : Option Addr) (len2 cap2 : Nat) (w : World) (hd : Draws w.heap.size w L0 len) (hm : Draws w.heap.size w M0 len2) :
    Calls Try.prog 4 #[.slice L0 len cap, .slice M0 len2 cap2] w fun e w' => e = .returned (.bool true) ∧ Below w.heap.size w w' := by
  have hF0 := Lib.hid (feed_new (cap := cap) hd 45)
  have HB0 := Lib.hid (one_new w (.cells #[.slice L0 len cap, .int .i64 0] 45))
  have HM := Lib.hid hm
  clear hd hm
  have hst := store_float
  go_enter Try.func4, Try.ntmps4
  go_wp2_with fail
  have hraw : IsRaw w.heap.size 4 (w.alloc (.cells #[.slice L0 len cap, .int .i64 0] 45)) ⟨none, 0, []⟩ := ⟨(is_nil _).is, by simp, by simp, Nat.le_refl _, by simp⟩
  refine (filters_any (B := w.heap.size) (b := w.heap.size) (a := 0) (M := 4) (R := ⟨none, 0, []⟩) 7 (by omega) (by omega) (by omega) (by omega) _ (by omega) hF0.out hraw).mono ?_
  rintro e w1 ⟨A, c, L, rfl, hn, hO, hE, hF, hK⟩
  have h7 : L.length ≤ 7 := by omega
  have HB1 : Hid (Below w.heap.size w w1) := HB0.out.trans (hK.below HB0.out.size (by intro i hi e; omega))
  have hfs : Fs w1 A L.length L := by
    obtain ⟨A', c', e, -, -, hr, -, -, -⟩ := hO.reads
    cases e
    exact ⟨hr, fun f hf => (hE f hf).is, by omega⟩
  have HFS := Lib.hid hfs
  have HFew : Hid (∀ f, f ∈ L → f.l.length ≤ 1000 ∧ ∀ x, x ∈ f.l → x.p.set.length ≤ 1000) := fun f hf => ⟨by have := (hE f hf).few; omega, fun x hx => by have := (hE f hf).small x hx; omega⟩
  have HFit : Hid (∀ f, f ∈ L → ∀ p, p ∈ Fi.tests f → Pd.Fits p) := fun f hf => (hE f hf).fits
  clear hraw hF0 HB0 hn hO hE hF hK hfs
  go_wp2_with fail
  refine (reduce_any (c := c) HFS.out (by omega) HFew.out).mono ?_
  rintro e w2 hp
  obtain ⟨A', c', M, rfl, hmt, hfs', -, -, hb⟩ := hp.fs (fun t ht p hp => by
    obtain ⟨f, hf, rfl⟩ := List.mem_map.1 ht
    exact HFit.out f (Fi.reduce_mem hf) p hp) (by rw [List.length_map]; have := Fi.reduce_len L; omega)
  have HK := Lib.hid (Kps.of (HFS.out.later hb) hfs' h7 hmt)
  have HB2 := Lib.hid (below_then HB1.out hb)
  clear hp hmt hfs' hb HFS HFew HFit HB1
  go_upto_region 4 with fail
  go_cut [39] (fun vv wx => vv = .bool false ∧ Below w2.heap.size w2 wx)
  case first =>
    have hless := HK.out.less
    have hsome := HK.out.some_
    have e1 : decide (L.length < M.length) = false := decide_eq_false (by omega)
    go_wp2_with fail
    refine (known_any _).mono ?_
    rintro e w3 ⟨rfl, hb⟩
    by_cases hL : (L.length : Int) > 0
    · have hm2 : ¬ ((M.length : Int) = 0) := by have := hsome (by omega); omega
      have e2 : (((M.length : Nat) : Int) == 0) = false := by simpa using hm2
      go_wp2_with fail
      go_meet
      exact ⟨rfl, hb⟩
    · go_wp2_with fail
      go_meet
      exact ⟨rfl, hb⟩
  case rest =>
  obtain ⟨rfl, hb⟩ := hcut
  have HK3 := Lib.hid (HK.out.later hb)
  have HB3 := Lib.hid (below_then HB2.out hb)
  clear hb HK HB2
  generalize wc = w3 at HK3 HB3 ⊢
  go_wp2_with fail
  go_loopw [8] (fun ii wr => ∃ i : Nat, i ≤ M.length ∧ ii = .int .i64 (i : Int) ∧ Below w3.heap.size w3 wr) (fun ii _ => M.length - (intOf ii).toNat)
  case atStart => exact ⟨0, by omega, rfl, Below.refl _ _⟩
  case round =>
    obtain ⟨i, hi, rfl, hB⟩ := hrel
    have HB := Lib.hid hB
    clear hB
    have hM7 : M.length ≤ 7 := by have := HK3.out.less; omega
    by_cases hlt : i < M.length
    · have uk : IntKind.i64.wrap ((i : Int) + 1) = (i : Int) + 1 := IntWalk.i64_in _ (by omega)
      go_wp2_with fail
      go_loopw [9] (fun ii wx => ∃ k : Nat, k ≤ M.length ∧ ii = .int .i64 (k : Int) ∧ Below w3.heap.size w3 wx) (fun ii _ => M.length - (intOf ii).toNat)
      case atStart => exact ⟨0, by omega, rfl, HB.out⟩
      case round =>
        obtain ⟨k, hk, rfl, hB⟩ := hrel
        clear HB
        have HB := Lib.hid hB
        clear hB
        by_cases hltk : k < M.length
        · have ukk : IntKind.i64.wrap ((k : Int) + 1) = (k : Int) + 1 := IntWalk.i64_in _ (by omega)
          by_cases hik : (i : Int) = (k : Int)
          · go_wp2_with fail
            haveI := later_some wr
            refine wp_region_later (W := wr) (by kernel_rfl) (by kernel_rfl) (Below.refl _ _) ?_
            repeat (go_big_quiet_step (fail))
            refine wpQuiet_nil ?_
            rintro _ ⟨x, rfl⟩
            go_wp2_with fail
            exact ⟨⟨k + 1, by omega, rfl, below_then HB.out x.below⟩, by simp [intOf]; omega⟩
          · obtain ⟨g, o, f, rfl, hf, hif, hcf⟩ := HK3.out.m.cells HB.out hlt
            obtain ⟨g', o', f', e, hf', hif', hcf'⟩ := HK3.out.m.cells HB.out hltk
            cases e
            have hcv := HK3.out.apart i k f f' hf hf' (by omega)
            have KC := Lib.hid (fun x : Later wr => hcv ▸ covers_any (c := f.c) (c' := f'.c) (hif.later x.below).ps (hif'.later x.below).ps)
            have l1 := fun x : Later wr => later_cell hcf x
            have l2 := fun x : Later wr => later_cell hcf' x
            clear hf hf' hif hif' hcf hcf' hcv
            have hb1 : ((i : Int) == (k : Int)) = false := beq_false_of_ne hik
            have hb2 : (i == k) = false := beq_false_of_ne (by omega)
            have hb3 : ((i : Int) != (k : Int)) = true := by unfold bne; rw [hb1]; rfl
            haveI := later_some wr
            go_wp2_with fail
            refine wp_region_later (W := wr) (by kernel_rfl) (by kernel_rfl) (Below.refl _ _) ?_
            repeat (go_big_quiet_step (first | (go_at_call 12; exact calls_later (KC.out _))))
            refine wpQuiet_nil ?_
            rintro _ ⟨x, rfl⟩
            go_wp2_with fail
            exact ⟨⟨k + 1, by omega, rfl, below_then HB.out x.below⟩, by simp [intOf]; omega⟩
        · go_wp2_with fail
          exact ⟨⟨i + 1, by omega, rfl, HB.out⟩, by simp [intOf]; omega⟩
    · go_upto_region 15 with fail
      have hn := one_new wr (.cells #[.slice M0 len2 cap2, .int .i64 0] 45)
      have hbw : Below w.heap.size w wr := below_then HB3.out HB.out
      have HG := Lib.hid (feed_new_low (cap := cap2) (draws_low HM.out hbw (Nat.le_refl _)) hbw.size 45)
      have HB4 := Lib.hid (below_then HB.out hn)
      have hg3 : w3.heap.size ≤ wr.heap.size := HB.out.size
      clear hn hbw HB HM
      generalize wr.alloc _ = w4 at HG HB4 ⊢
      generalize wr.heap.size = gb at HG hg3 ⊢
      go_wp2_with fail
      go_loopw [11] (fun ii wr => ∃ m : Nat, m ≤ 8 ∧ ii = .int .i64 (m : Int) ∧ Below w3.heap.size w3 wr ∧ IsFeed w.heap.size wr gb (15 * m)) (fun ii _ => 8 - (intOf ii).toNat)
      case atStart => exact ⟨0, by omega, rfl, HB4.out, HG.out⟩
      case round =>
        obtain ⟨m, hm, rfl, hB, hG⟩ := hrel
        clear HB4 HG
        have HB5 := Lib.hid hB
        have HG5 := Lib.hid hG
        clear hB hG
        by_cases h8 : (m : Int) < 8
        · have um : IntKind.i64.wrap ((m : Int) + 1) = (m : Int) + 1 := IntWalk.i64_in _ (by omega)
          go_wp2_with fail
          refine (feedattrs_any (a := 15 * m) _ (by omega) HG5.out).mono ?_
          rintro e w5 ⟨va, a, rfl, hfed, hoa, hF, hK⟩
          obtain ⟨Aa, ca, rfl, -⟩ := hoa.reads
          have HFit := Lib.hid hfed.fits
          have HA := Lib.hid (OwnW.ats hoa hfed.small)
          have HB6 : Hid (Below w3.heap.size w3 w5) := HB5.out.trans (hK.below HB5.out.size (by intro i hi e; omega))
          have HG6 : Hid (IsFeed w.heap.size w5 gb (15 * (m + 1))) := hF.more (by omega)
          clear hfed hoa hF hK HB5 HG5
          have KA := Lib.hid (fun wx (h : Below w3.heap.size w3 wx) (ha : Ats wx Aa a.length a) => fany_any (c := c) (c' := ca) (HK3.out.later h).l ha HFit.out)
          have KM := Lib.hid (fun wx (h : Below w3.heap.size w3 wx) (ha : Ats wx Aa a.length a) => (HK3.out.any_ a) ▸ fany_any (c := c') (c' := ca) (HK3.out.later h).m ha HFit.out)
          generalize Fi.any L a = t at KA KM
          go_wp2_with fail
          refine (KA.out w5 HB6.out HA.out).mono ?_
          rintro e w6 ⟨rfl, hb⟩
          have HB7 := Lib.hid (below_then HB6.out hb)
          have HA7 := Lib.hid (HA.out.later hb)
          have HG7 := Lib.hid (HG6.out.below hb)
          clear hb HB6 HA HG6
          go_wp2_with fail
          refine (KM.out w6 HB7.out HA7.out).mono ?_
          rintro e w7 ⟨rfl, hb⟩
          have HB8 := Lib.hid (below_then HB7.out hb)
          have HA8 := Lib.hid (HA7.out.later hb)
          have HG8 := Lib.hid (HG7.out.below hb)
          clear hb HB7 HA7 HG7 KA KM
          have htt : (t != t) = false := by cases t <;> rfl
          go_wp2_with fail
          go_loopw [13] (fun ii wr => ∃ i : Nat, i ≤ L.length ∧ ii = .int .i64 (i : Int) ∧ Below w7.heap.size w7 wr) (fun ii _ => L.length - (intOf ii).toNat)
          case atStart => exact ⟨0, by omega, rfl, Below.refl _ _⟩
          case round =>
            obtain ⟨j, hj, rfl, hB⟩ := hrel
            have HBj := Lib.hid hB
            clear hB
            have uj : IntKind.i64.wrap ((j : Int) + 1) = (j : Int) + 1 := IntWalk.i64_in _ (by omega)
            by_cases hlj : (j : Int) + 1 < (L.length : Int)
            · have HB9 := Lib.hid (below_then HB8.out HBj.out)
              have HA9 := Lib.hid (HA8.out.later HBj.out)
              obtain ⟨g, o, f, rfl, hf, hif, hcf⟩ := HK3.out.l.cells HB9.out (show j < L.length by omega)
              obtain ⟨g', o', f', e, hf', hif', hcf'⟩ := HK3.out.l.cells HB9.out (show j + 1 < L.length by omega)
              cases e
              have hsnd : Fi.covers f.l f'.l = true → Fi.takes f'.l a = true → Fi.takes f.l a = true := Fi.takes_of
              have KC := Lib.hid (fun x : Later wr => covers_any (c := f.c) (c' := f'.c) (hif.later x.below).ps (hif'.later x.below).ps)
              have KF := Lib.hid (fun x : Later wr => ftakes_any (c := f'.c) (c' := ca) (hif'.later x.below).ps (HA9.out.later x.below) HFit.out)
              have KG := Lib.hid (fun x : Later wr => ftakes_any (c := f.c) (c' := ca) (hif.later x.below).ps (HA9.out.later x.below) HFit.out)
              have l1 := fun x : Later wr => later_cell hcf x
              have l2 := fun x : Later wr => later_cell hcf' x
              clear hf hf' hif hif' hcf hcf' HA9
              generalize Fi.covers f.l f'.l = b1 at KC hsnd
              generalize Fi.takes f'.l a = b2 at KF hsnd
              generalize Fi.takes f.l a = b3 at KG hsnd
              haveI := later_some wr
              rcases b1 with - | -
              · go_wp2_with fail
                refine wp_region_later (W := wr) (by kernel_rfl) (by kernel_rfl) (Below.refl _ _) ?_
                repeat (go_big_quiet_step (first | (go_at_call 12; exact calls_later (KC.out _)) | (go_at_call 14; exact calls_later (KF.out _))))
                refine wpQuiet_nil ?_
                rintro _ ⟨x, rfl⟩
                go_wp2_with fail
                exact ⟨⟨j + 1, by omega, rfl, below_then HBj.out x.below⟩, by simp [intOf]; omega⟩
              · rcases b2 with - | -
                · go_wp2_with fail
                  refine wp_region_later (W := wr) (by kernel_rfl) (by kernel_rfl) (Below.refl _ _) ?_
                  repeat (go_big_quiet_step (first | (go_at_call 12; exact calls_later (KC.out _)) | (go_at_call 14; exact calls_later (KF.out _))))
                  refine wpQuiet_nil ?_
                  rintro _ ⟨x, rfl⟩
                  go_wp2_with fail
                  exact ⟨⟨j + 1, by omega, rfl, below_then HBj.out x.below⟩, by simp [intOf]; omega⟩
                · obtain rfl : b3 = true := hsnd rfl rfl
                  go_wp2_with fail
                  refine wp_region_later (W := wr) (by kernel_rfl) (by kernel_rfl) (Below.refl _ _) ?_
                  iterate 18 (go_big_quiet_step (first | (go_at_call 12; exact calls_later (KC.out _)) | (go_at_call 14; exact calls_later (KF.out _))))
                  clear KC KF
                  repeat (go_big_quiet_step (first | (go_at_call 14; exact calls_later (KG.out _))))
                  refine wpQuiet_nil ?_
                  rintro _ ⟨x, rfl⟩
                  go_wp2_with fail
                  exact ⟨⟨j + 1, by omega, rfl, below_then HBj.out x.below⟩, by simp [intOf]; omega⟩
            · go_wp2_with fail
              exact ⟨⟨m + 1, by omega, rfl, below_then HB8.out HBj.out, HG8.out.below HBj.out⟩, by simp [intOf]; omega⟩
        · go_wp2_with fail
          go_ret
          exact ⟨rfl, below_then HB3.out HB5.out⟩
theorem fkeeps_below (w : World) (A : Option Addr) (len cap : Nat) (zs : List Int) (hr : IsRow .i64 w A len cap zs) (A' : Option Addr) (len' cap' : Nat) (zs' : List Int) (hr' : IsRow .i64 w A' len' cap' zs') :
    Calls Try.prog 4 #[.slice A len cap, .slice A' len' cap'] w fun e w' => e = .returned (.bool true) ∧ Below w.heap.size w w' := fkeeps_walk A len cap A' len' cap' w hr.draws hr'.draws
end Go.Proofs.Ytfbfbajccphkoaa
