
/- wire.Read by what takeFrame does: the rule; of the examples' bytes. -/
import Derived.Test.YtgenmebmdpnjhaaWireRead0
namespace Go.Proofs.Ytgenmebmdpnjhaa
open Go.RowKit
set_option linter.unusedVariables false
set_option maxRecDepth 100000

/-- Two results, the first in a cell. -/
theorem results_fr_tmp {fn : Func} {p q : Tmp} {ty : TypeId} (h : fn.results = #[.cell p ty, .tmp q]) (tmps : Array Value) (w : World) (g : Nat) (t : TypeId) (cs : Array Value) (fs : Array Field) (v : Value)
    (hp : tmps.getD p undef = .pointer (some ⟨g, 0, none⟩)) (hq : tmps.getD q undef = v) (hg : w.heap[g]? = some (.cells cs t (0, 0)))
    (hu : Try.prog.underlying ty = some (.struct fs)) (hi : (Try.prog.info? ty).map (·.size) = some cs.size) :
    (results fn tmps).run Try.prog w = .ok (.tuple #[.agg cs, v]) w := by
  have hp' : tmps[p]?.getD undef = .pointer (some ⟨g, 0, none⟩) := by simpa using hp
  have hq' : tmps[q]?.getD undef = v := by simpa using hq
  simp only [results, h]
  simp [hp', hq', asAddr, Result.andThen, run_loadVar_row w g t ty cs (0, 0) (.struct fs) hg hu rfl hi]

set_option maxHeartbeats 8000000 in
theorem read1_of {w : World} {g pf : Nat} {A : Option Addr} {r : List Nat} {err : Int} {t : Nat} {f : Fr} (h : Calls Try.prog 11 #[.pointer (some ⟨g, 0, none⟩)] w (FrTook g A r err t f w)) (hf : w.heap[pf]? = some zbox) (hne : ¬ pf = g) :
    Calls Try.prog 10 #[.pointer (some ⟨g, 0, none⟩), .pointer (some ⟨pf, 0, none⟩)] w fun e w5 => ((err = 0 ∧ (∃ v, e = .returned v) ∧ LeftIs w5 g (r.drop t)) ∨ (¬ err = 0 ∧ e = stopped err)) ∧ Kept (fun k => k = g ∨ k = pf) w w5 ∧ (err = 0 → w5.heap[pf]? = some (frbox f)) := by
  have H := Lib.hid h
  have HF := Lib.hid hf
  clear h hf
  go_enter Try.func10, Try.ntmps10
  go_wp2_with fail
  refine H.out.mono ?_
  rintro e w1 (⟨he, rfl, ⟨A1, n1, c1, hp, -⟩, hk⟩ | ⟨he, rfl, hk⟩)
  case inr => exact ⟨rfl, .inr ⟨he, rfl⟩, hk.mono (fun i _ e => .inl e), fun e => absurd e he⟩
  have hz := hk.row HF.out hne
  obtain ⟨hf1, hf2⟩ := set_frame (h := stopFr 0 0) f hz
  have HZ := Lib.hid hz
  have HN := Lib.hid (And.intro hf1 (And.intro ((hk.mono (fun i _ e => Or.inl e)).then (hf2.mono (fun i _ e => Or.inr e))) (hp.left.kept hf2 (fun e => hne e.symm))))
  have HE := Lib.hid he
  clear hz hf1 hf2 hp hk he H HF
  go_wp2_with (first | (refine wpList_store_part rfl 33 _ _ rfl pf 0 _ (Fr.cells f) rfl rfl rfl 33 (Fr.cells (stopFr 0 0)) HZ.out fr_size (Nat.le_of_eq rfl) (fr_one _) ?_; generalize World.setRow _ _ _ = w5 at HN ⊢))
  go_end0
  exact ⟨.inl ⟨HE.out, ⟨_, rfl⟩, HN.out.2.2⟩, HN.out.2.1, fun _ => HN.out.1⟩

/-- What Read tells. -/
def ReadPost (ans : Int) (f : Fr) (w : World) (e : Ending) (w' : World) : Prop := e = .returned (.tuple #[frv (if ans = 0 then f else stopFr 0 0), .int .i64 ans]) ∧ Below w.heap.size w w'

set_option maxHeartbeats 16000000 in
theorem wread_of {w : World} {A : Option Addr} {n c : Nat} {l : List Nat} {err : Int} {t : Nat} {f : Fr} {ans : Int} (hr : Rd w A n c l) (hc : n ≤ c) (hn : n ≤ 4611686018427387904) (h0 : ∀ ad, A = some ad → ad.block < w.heap.size)
    (hans : readAns err (l.drop t) = ans) (hz : ans = 0 → err = 0)
    (h : ∀ (w4 : World) (g : Nat), PR w4 g A n c l → (∀ ad, A = some ad → ad.block < w4.heap.size) → Calls Try.prog 11 #[.pointer (some ⟨g, 0, none⟩)] w4 (FrTook g A l err t f w4)) :
    Calls Try.prog 4 #[.slice A n c] w (ReadPost ans f w) := by
  have hb2 := two_new w zbox zbox
  have hr1 := first_of w zbox zbox
  have hr2 := new_second w zbox zbox
  have hs2 : ((w.alloc zbox).alloc zbox).heap.size = w.heap.size + 2 := by simp
  have HRd := Lib.hid (hr.later hb2)
  have HR1 := Lib.hid hr1
  have HR2 := Lib.hid hr2
  have HB2 := Lib.hid hb2
  have H0 : Hid (∀ ad, A = some ad → ad.block < ((w.alloc zbox).alloc zbox).heap.size) := Lib.hid (fun ad e => by have := h0 ad e; omega)
  have H := Lib.hid h
  clear hb2 hr1 hr2 hr h0 h
  go_enter Try.func4, Try.ntmps4
  go_wp2_with fail
  change Calls _ _ _ ((w.alloc zbox).alloc zbox) _
  generalize (w.alloc zbox).alloc zbox = w2 at HRd HR1 HR2 HB2 H0 hs2 ⊢
  have hF := read_of 10 #[.pointer (some ⟨w.heap.size + 1, 0, none⟩)] HRd.out hc hn H0.out err (l.drop t) (fun k => k = w2.heap.size + 1 ∨ k = w.heap.size + 1) (fun w5 => err = 0 → w5.heap[w.heap.size + 1]? = some (frbox f)) (fun w' => by kernel_rfl) (fun k hk e => by omega) (fun w4 hb4 hs4 hp => by
    refine (read1_of (H.out w4 (w2.heap.size + 1) hp (fun ad e => by have := H0.out ad e; omega)) (below_row hb4 HR2.out) (by omega)).mono ?_
    rintro e w5 ⟨h1, h2, h3⟩
    exact ⟨h1, h2, h3⟩)
  have HF := Lib.hid hF
  clear hF H
  refine HF.out.mono ?_
  rw [hans]
  rintro e w3 ⟨rfl, w5, hq, hk5, hk⟩
  have HR3 : Hid (w3.heap[w.heap.size]? = some zbox) := Lib.hid (hk.row HR1.out (by omega))
  have HK3 : Hid (Below w.heap.size w w3) := Lib.hid (HB2.out.trans (hk.below (by omega) (fun i hi e => by omega)))
  have HQ : Hid (ans = 0 → w3.heap[w.heap.size + 1]? = some (frbox f)) := Lib.hid (fun e => hk5.row (hq (hz e)) (by omega))
  clear hq hk5 hk HF HRd HR1 HR2 HB2 H0
  by_cases ha : ans = 0
  · subst ha
    have hf := HQ.out rfl
    have HC := Lib.hid (frbox_cells hf)
    obtain ⟨hf1, hf2⟩ := set_frame (h := stopFr 0 0) f HR3.out
    have HN := Lib.hid (And.intro hf1 (HK3.out.trans (hf2.below (HK3.out.size) (fun i hi e => by omega))))
    clear hf hf1 hf2 HQ HK3
    go_wp2_with (first | (refine wpList_load_at rfl 33 _ rfl (w.heap.size + 1) 0 f.cells _ rfl HC.out Try.underlying33 rfl fr_size ?_) | (refine wpList_store_part rfl 33 _ _ rfl w.heap.size 0 _ (Fr.cells f) rfl rfl rfl 33 (Fr.cells (stopFr 0 0)) HR3.out fr_size (Nat.le_of_eq rfl) (fr_one _) ?_; generalize World.setRow _ _ _ = w5 at HN ⊢))
    refine bodyPost_ret (results_fr_tmp rfl _ _ _ _ _ _ _ rfl rfl HN.out.1 Try.underlying33 (by kernel_rfl)) rfl ?_
    exact ⟨rfl, HN.out.2⟩
  · obtain ⟨hf1, hf2⟩ := set_frame (h := stopFr 0 0) (stopFr 0 0) HR3.out
    have HN := Lib.hid (And.intro hf1 (HK3.out.trans (hf2.below (HK3.out.size) (fun i hi e => by omega))))
    clear hf1 hf2 HQ HK3
    go_wp2_with (first | (refine wpList_store_part rfl 33 _ _ rfl w.heap.size 0 _ (Fr.cells (stopFr 0 0)) rfl rfl rfl 33 (Fr.cells (stopFr 0 0)) HR3.out fr_size (Nat.le_of_eq rfl) (fr_one _) ?_; generalize World.setRow _ _ _ = w5 at HN ⊢))
    refine bodyPost_ret (results_fr_tmp rfl _ _ _ _ _ _ _ rfl rfl HN.out.1 Try.underlying33 (by kernel_rfl)) rfl ?_
    exact ⟨by rw [if_neg ha]; rfl, HN.out.2⟩
end Go.Proofs.Ytgenmebmdpnjhaa
