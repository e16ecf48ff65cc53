
/- FilterReduces: the walk. -/
import Derived.Test.YtfbfbajccphkoaaGreatRefFil3
import Derived.Test.YtfbfbajccphkoaaGreatOpenPrds
namespace Go.Proofs.YtfbfbajccphkoaaGreat
open Go.RowKit
set_option linter.unusedVariables false

namespace Fi
theorem sameT_self : ∀ l : List Prd, sameT l l = true
  | [] => rfl
  | p :: l => by rw [sameT, sameT_self l, Pd.same_self]; rfl
theorem same_tests {f g : Ft} (h : tests f = tests g) : same f.l g.l = true := by
  rw [same_t]
  have h' : f.l.map (·.p) = g.l.map (·.p) := h
  rw [h']
  exact sameT_self _
theorem tests_same {L M : List Ft} (h : M.map tests = L.map tests) {i : Nat} {f g : Ft} (hf : M[i]? = some f) (hg : L[i]? = some g) : same f.l g.l = true := by
  refine same_tests ?_
  have h1 : (M.map tests)[i]? = some (tests f) := by rw [List.getElem?_map, hf]; rfl
  have h2 : (L.map tests)[i]? = some (tests g) := by rw [List.getElem?_map, hg]; rfl
  rw [h, h2] at h1
  exact (Option.some.inj h1).symm
end Fi
theorem El.fits {B b M : Nat} {w : World} {f : Ft} (h : El B b M w f) : ∀ p, p ∈ Fi.tests f → Pd.Fits p := by
  intro p hp
  obtain ⟨x, hx, rfl⟩ := List.mem_map.1 hp
  exact (h.is.ps.each x hx).is.fits

set_option maxRecDepth 100000 in
set_option maxHeartbeats 16000000 in
theorem freduces_walk (R : Ft) (L0 : Option Addr) (len cap : Nat) (w : World) (hR : IsRaw w.heap.size 2932031007317 w R) (hd : Draws w.heap.size w L0 len) :
    Calls Tryz.prog 4 #[.slice R.A R.l.length R.c, .slice L0 len cap] w fun e w' => e = .returned (.bool true) ∧ Below w.heap.size w w' := by
  have hF0 := Lib.hid (feed_new (cap := cap) hd 27)
  have HB0 := Lib.hid (one_new w (.cells #[.slice L0 len cap, .int .i64 0] 27))
  have HR0 := Lib.hid (hR.later HB0.out)
  clear hd hR
  have hst := store_float
  go_enter Tryz.func4, Tryz.ntmps4
  go_wp2_with fail
  refine (filters_any (B := w.heap.size) (b := w.heap.size) (a := 0) (M := 2932031007317) 7 (by omega) (by omega) (by omega) (by omega) _ (by omega) hF0.out HR0.out).mono ?_
  rintro e w1 ⟨A, c, L, rfl, hn, hO, hE, hF, hK⟩
  have h7 : L.length ≤ 7 := by omega
  have HB1 : Hid (Below w.heap.size w w1) := HB0.out.trans (hK.below HB0.out.size (by intro i hi e; omega))
  have hfs : Fs w1 A L.length L := by
    obtain ⟨A', c', e, -, -, hr, -, -, -⟩ := hO.reads
    cases e
    exact ⟨hr, fun f hf => (hE f hf).is, by omega⟩
  have HFS := Lib.hid hfs
  have HFew : Hid (∀ f, f ∈ L → f.l.length ≤ 1000 ∧ ∀ x, x ∈ f.l → x.p.set.length ≤ 2932031007317) := fun f hf => ⟨by have := (hE f hf).few; omega, fun x hx => (hE f hf).small x hx⟩
  have HFit : Hid (∀ f, f ∈ L → ∀ p, p ∈ Fi.tests f → Pd.Fits p) := fun f hf => (hE f hf).fits
  clear hF0 HB0 HR0 hn hO hE hF hK hfs
  go_wp2_with fail
  refine (reduce_any (c := c) HFS.out (by omega) HFew.out).mono ?_
  rintro e w2 hp
  obtain ⟨A', c', M, rfl, hmt, hfs', -, -, hb⟩ := hp.fs (fun t ht p hp => by
    obtain ⟨f, hf, rfl⟩ := List.mem_map.1 ht
    exact HFit.out f (Fi.reduce_mem hf) p hp) (by rw [List.length_map]; have := Fi.reduce_len L; omega)
  have hlen : (Fi.reduce L).length = M.length := by have := congrArg List.length hmt; simpa using this.symm
  have hM7 : M.length ≤ 7 := by have := Fi.reduce_len L; omega
  have HS := Lib.hid (fun (i : Nat) (f g : Ft) (hf : M[i]? = some f) (hg : (Fi.reduce L)[i]? = some g) => Fi.tests_same hmt hf hg)
  have HFS2 := Lib.hid (HFS.out.later hb)
  have HM2 := Lib.hid hfs'
  have HB2 := Lib.hid (below_then HB1.out hb)
  clear hp hmt hfs' hb HFS HFew HFit HB1
  go_wp2_with fail
  refine (rfreduce_any (c := c) HFS2.out (by omega)).mono ?_
  rintro e w3 ⟨v, rfl, hO3, hb⟩
  obtain ⟨A3, c3, rfl, -, -, hr3, -, -, -⟩ := hO3.reads
  have hNis : ∀ f, f ∈ Fi.reduce L → IsFt w3 f := fun f hf => (HFS2.out.each f (Fi.reduce_mem hf)).later hb
  have HM3 := Lib.hid (HM2.out.later hb)
  have HB3 := Lib.hid (below_then HB2.out hb)
  clear hO3 hb HM2 HB2 HFS2
  generalize Fi.reduce L = N at hlen HS hNis hr3 ⊢
  rw [hlen] at hr3 ⊢
  have HN3 : Hid (Fs w3 A3 M.length N) := ⟨hr3, hNis, by omega⟩
  clear hNis hr3
  go_wp2_with fail
  refine (known_any _).mono ?_
  rintro e w4 ⟨rfl, hb⟩
  have HM4 := Lib.hid (HM3.out.later hb)
  have HN4 := Lib.hid (HN3.out.later hb)
  have HB4 := Lib.hid (below_then HB3.out hb)
  clear hb HM3 HN3 HB3
  go_wp2_with fail
  go_loopw [9] (fun ii wr => ∃ i : Nat, i ≤ M.length ∧ ii = .int .i64 (i : Int) ∧ Below w4.heap.size w4 wr) (fun ii _ => M.length - (intOf ii).toNat)
  case atStart => exact ⟨0, by omega, rfl, Below.refl _ _⟩
  case round =>
    obtain ⟨i, hi, rfl, hB⟩ := hrel
    have HB := Lib.hid hB
    clear hB
    have ui : IntKind.i64.wrap ((i : Int) + 1) = (i : Int) + 1 := IntWalk.i64_in _ (by omega)
    by_cases hlt : i < M.length
    · obtain ⟨g, o, f, rfl, hf, hif, hcf⟩ := HM4.out.cells HB.out hlt
      obtain ⟨g', o', f', rfl, hf', hif', hcf'⟩ := HN4.out.cells HB.out (show i < N.length by omega)
      have hs := HS.out i f f' hf hf'
      have KC := Lib.hid (fun x : Later wr => hs ▸ rfsame_any (c := f.c) (c' := f'.c) (hif.later x.below).ps (hif'.later x.below).ps)
      have l1 := fun x : Later wr => later_cell hcf x
      have l2 := fun x : Later wr => later_cell hcf' x
      clear hf hf' hif hif' hcf hcf' hs
      haveI := later_some wr
      go_wp2_with fail
      refine wp_region_later (W := wr) (by kernel_rfl) (by kernel_rfl) (Below.refl _ _) ?_
      repeat (go_big_quiet_step (first | (go_at_call 14; exact calls_later (KC.out _))))
      refine wpQuiet_nil ?_
      rintro _ ⟨x, rfl⟩
      go_wp2_with fail
      exact ⟨⟨i + 1, by omega, rfl, below_then HB.out x.below⟩, by simp [intOf]; omega⟩
    · go_wp2_with fail
      go_ret
      exact ⟨rfl, below_then HB4.out HB.out⟩
theorem freduces_below (w : World) (R : Ft) (hR : IsRaw w.heap.size 2932031007317 w R) (A : Option Addr) (len cap : Nat) (zs : List Int) (hr : IsRow .i64 w A len cap zs) :
    Calls Tryz.prog 4 #[.slice R.A R.l.length R.c, .slice A len cap] w fun e w' => e = .returned (.bool true) ∧ Below w.heap.size w w' := freduces_walk R A len cap w hR hr.draws
end Go.Proofs.YtfbfbajccphkoaaGreat
