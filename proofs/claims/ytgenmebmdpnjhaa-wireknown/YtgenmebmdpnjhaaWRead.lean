/- WRead: Split, WireRead0, WireRead1 in one text. -/
import Derived.WalkKit
import Derived.BigFrame
import Derived.Test.YtgenmebmdpnjhaaWireTake
import Derived.Test.YtgenmebmdpnjhaaWireLay3
namespace Go.Proofs.Ytgenmebmdpnjhaa
open Go.RowKit

section
variable {P : Program} {ops : Array Oper} {Q : Exit → Act → World → Prop}
/-- Behind the first part: the second. -/
def Second (P : Program) (ops : Array Oper) (Q : Exit → Act → World → Prop) (l : List Oper) : Exit → Act → World → Prop
  | .normal, a, w => wpList P ops Q l a w
  | e, a, w => Q e a w
theorem second_lets {l : List Oper} (h : LetsOut (Second P ops Q l)) : LetsOut Q := h
theorem second_op {l : List Oper} {o : Oper} {a : Act} {w : World} {K : Act → World → Prop} (hh : o.wp P a w K (Second P ops Q l)) : o.wp P a w K Q := by
  unfold Oper.wp at *
  generalize (execOp a.eval o).run P w = r at *
  cases r with
  | ok n w' =>
    cases n <;> simp only [Oper.upon] at hh ⊢ <;>
      first
        | exact hh
        | exact Calls.mono hh (fun e w'' he => by cases e <;> exact he)
  | halt x w' => cases x <;> simp only [Oper.upon] at hh ⊢ <;> exact hh
theorem wpList_split (l2 : List Oper) : ∀ (l1 : List Oper) (a : Act) (w : World), wpList P ops (Second P ops Q l2) l1 a w → wpList P ops Q (l1 ++ l2) a w
  | [], _, _, h => h
  | o :: l, a, w, h => by
    rw [List.cons_append]
    unfold wpList at h ⊢
    split at h
    · rename_i hw
      rw [if_pos hw]
      rcases h with h | h
      · exact .inl (second_op (Oper.wp_mono (fun a w h => wpList_split l2 l a w h) h))
      · exact .inr ⟨h.1, second_lets h.2⟩
    · rename_i hw
      rw [if_neg hw]
      exact wpList_split l2 l _ _ h
/-- A plain region, its first n operations apart. -/
theorem region_split {id : Nat} {l : List Oper} {a : Act} {w : World} (n : Nat) (h : wpList P l.toArray (Second P l.toArray Q (l.drop n)) (l.take n) a w) : (Code.region id l.toArray false).wp P Q a w := by
  refine wp_region_lit ?_
  have := wpList_split (l.drop n) (l.take n) a w h
  rw [List.take_append_drop] at this
  exact this
end
end Go.Proofs.Ytgenmebmdpnjhaa

namespace Go.Proofs.Ytgenmebmdpnjhaa
open Go.RowKit
set_option linter.unusedVariables false
set_option maxRecDepth 100000

/-- A frame of a Kind and an Epoch alone. -/
abbrev stopFr (k ep : Int) : Fr := ⟨k, 0, 0, 0, 0, ep, ev0, false, sb0, none, 0, []⟩
/-- How takeFrame ends: with such a frame, t bytes behind; or it Stops. -/
def FrTook (g : Nat) (A : Option Addr) (r : List Nat) (err : Int) (t : Nat) (f : Fr) (w : World) (e : Ending) (w' : World) : Prop :=
  (err = 0 ∧ e = .returned (frv f) ∧ (∃ A' n c, PR w' g A' n c (r.drop t) ∧ SameBlock A A') ∧ Kept (· = g) w w') ∨ (¬ err = 0 ∧ e = stopped err ∧ Kept (· = g) w w')
abbrev zbox : Obj := frbox (stopFr 0 0)
theorem fr_one (f : Fr) : ∀ u ∈ f.cells, u.oneCell' = true := by
  intro u hu
  simp only [Fr.cells, List.mem_cons, List.not_mem_nil, or_false] at hu
  rcases hu with rfl | rfl | rfl | rfl | rfl | rfl | rfl | rfl | rfl | rfl | rfl | rfl | rfl | rfl | rfl | rfl | rfl | rfl | rfl <;> rfl
theorem part_fr (f h : Fr) : part h.cells 0 f.cells = f.cells := rfl
/-- A frame stored over another one. -/
theorem set_frame {w : World} {g : Nat} {h : Fr} (f : Fr) (hg : w.heap[g]? = some (frbox h)) : (w.setRow g (part h.cells 0 f.cells).toArray).heap[g]? = some (frbox f) ∧ Kept (· = g) w (w.setRow g (part h.cells 0 f.cells).toArray) := by
  rw [part_fr]
  exact ⟨setRow_heap w g _ f.cells.toArray _ _ hg, Kept.setRow _ _ _⟩
/-- A frame in a block just made. -/
theorem new_frame (w : World) (f : Fr) : ((w.alloc zbox).setRow w.heap.size (part (stopFr 0 0).cells 0 f.cells).toArray).heap[w.heap.size]? = some (frbox f) ∧ Below w.heap.size w ((w.alloc zbox).setRow w.heap.size (part (stopFr 0 0).cells 0 f.cells).toArray) := by
  obtain ⟨h1, h2⟩ := set_frame f (heap_alloc_new w zbox)
  exact ⟨h1, (one_new w zbox).trans (h2.below (one_new w zbox).size (fun k hk e => by omega))⟩
theorem Kept.new {S : Nat → Prop} {w w1 w' : World} (h : Below w.heap.size w w1) (k : Kept S w1 w') : Kept S w w' := (Kept.ofBelow h).then k

set_option maxHeartbeats 8000000 in
theorem takeframe_short {w : World} {g : Nat} {A : Option Addr} {n c : Nat} {r : List Nat} (h : PR w g A n c r) (hap : ∀ ad, A = some ad → ad.block < w.heap.size) (he : ¬ natErr r = 0) :
    Calls Try.prog 11 #[.pointer (some ⟨g, 0, none⟩)] w (FrTook g A r (natErr r) 0 (stopFr 0 0) w) := by
  have hn := one_new w zbox
  have hg : g < w.heap.size := cell_lt h.c0
  have h1 : PR (w.alloc zbox) g A n c r := h.kept (S := fun _ => False) (Kept.ofBelow hn) (fun h => h) (fun _ _ h => h)
  have HC := Lib.hid (pnatr_at h1)
  have HN := Lib.hid hn
  clear h h1 hn
  generalize natErr r = err at HC he ⊢
  generalize natVal r = v at HC
  generalize natTaken r = t at HC
  go_enter Try.func11, Try.ntmps11
  go_wp2_with fail
  refine HC.out.mono ?_
  rintro e w1 (⟨he2, rfl, hp, hk⟩ | ⟨he2, rfl, hk⟩)
  · exact absurd he2 he
  · exact ⟨rfl, .inr ⟨he, rfl, Kept.new HN.out hk⟩⟩

set_option maxHeartbeats 8000000 in
theorem takeframe_none {w : World} {g : Nat} {A : Option Addr} {n c : Nat} {r : List Nat} (h : PR w g A n c r) (he : natErr r = 0) (hv : ¬ (natVal r : Int) = 1 ∧ ¬ (natVal r : Int) = 2 ∧ ¬ (natVal r : Int) = 3 ∧ ¬ (natVal r : Int) = 4 ∧ ¬ (natVal r : Int) = 5 ∧ ¬ (natVal r : Int) = 6 ∧ ¬ (natVal r : Int) = 7 ∧ ¬ (natVal r : Int) = 8) :
    Calls Try.prog 11 #[.pointer (some ⟨g, 0, none⟩)] w (FrTook g A r 3 0 (stopFr 0 0) w) := by
  have hn := one_new w zbox
  have hg : g < w.heap.size := cell_lt h.c0
  have h1 : PR (w.alloc zbox) g A n c r := h.kept (S := fun _ => False) (Kept.ofBelow hn) (fun h => h) (fun _ _ h => h)
  have HC := Lib.hid (pnatr_at h1)
  have HN := Lib.hid hn
  clear h h1 hn
  generalize natErr r = err at HC he
  generalize natVal r = v at HC hv
  generalize natTaken r = t at HC
  obtain ⟨v1, v2, v3, v4, v5, v6, v7, v8⟩ := hv
  subst he
  go_enter Try.func11, Try.ntmps11
  go_upto_region 1 with fail
  refine region_split 4 ?_
  simp only [List.take_succ_cons, List.take_zero, List.drop_succ_cons, List.drop_zero]
  go_wp2_with fail
  refine HC.out.mono ?_
  rintro e w1 (⟨-, rfl, hp, hk⟩ | ⟨he2, -⟩)
  case inr => exact absurd rfl he2
  have HK := Lib.hid (Kept.new HN.out hk)
  clear hp hk HC HN
  go_wp2_with fail
  have hnf := new_frame w1 (stopFr v 0)
  have hz : (w1.alloc zbox).heap[w1.heap.size]? = some zbox := heap_alloc_new w1 zbox
  change wpList Try.prog _ _ _ _ (w1.alloc zbox)
  generalize w1.alloc zbox = W1 at hnf hz ⊢
  refine wpList_store_part rfl 33 _ _ rfl w1.heap.size 0 _ (Fr.cells (stopFr v 0)) rfl rfl rfl 33 (Fr.cells (stopFr 0 0)) hz fr_size (Nat.le_of_eq rfl) (fr_one _) ?_
  have HN2 := Lib.hid hnf
  clear hnf hz
  generalize World.setRow _ _ _ = w2 at HN2 ⊢
  have k0 := fr_cell HN2.out.1 0 _ rfl
  have HK2 := Lib.hid (HK.out.then (Kept.ofBelow HN2.out.2))
  clear HN2 HK
  go_wp2_with (go_at_call 35; refine (stop_err 3 rfl _).mono ?_; rintro e w' ⟨rfl, rfl⟩)
  exact ⟨rfl, .inr ⟨by decide, rfl, HK2.out⟩⟩

set_option maxHeartbeats 16000000 in
theorem takeframe_stop {w : World} {g : Nat} {A : Option Addr} {n c : Nat} {r r1 : List Nat} {er : Int} {ep t t1 : Nat} (h : PR w g A n c r) (hap : ∀ ad, A = some ad → ad.block < w.heap.size) (he : natErr r = 0) (hv : natVal r = 2)
    (ht : natTaken r = t) (hr1 : r.drop t = r1) (her : takeErr Wr.num r1 = er) (hep : natVal r1 = ep) (ht1 : natTaken r1 = t1) :
    Calls Try.prog 11 #[.pointer (some ⟨g, 0, none⟩)] w (FrTook g A r er (t + t1) (stopFr 2 (ep : Int)) w) := by
  have hn := one_new w zbox
  have HR0 := Lib.hid (heap_alloc_new w zbox)
  have hg : g < w.heap.size := cell_lt h.c0
  have h1 : PR (w.alloc zbox) g A n c r := h.kept (S := fun _ => False) (Kept.ofBelow hn) (fun h => h) (fun _ _ h => h)
  have HC := Lib.hid (pnatr_at h1)
  have HN := Lib.hid hn
  rw [he, hv, ht] at HC
  clear h h1 hn he hv ht
  have e2 : r.drop (t + t1) = r1.drop t1 := by rw [← hr1, List.drop_drop]
  go_enter Try.func11, Try.ntmps11
  go_upto_region 1 with fail
  refine region_split 4 ?_
  simp only [List.take_succ_cons, List.take_zero, List.drop_succ_cons, List.drop_zero]
  go_wp2_with fail
  refine HC.out.mono ?_
  rintro e w1 (⟨-, rfl, ⟨A1, n1, c1, hp, hsb⟩, hk⟩ | ⟨he2, -⟩)
  case inr => exact absurd rfl he2
  rw [hr1] at hp
  clear hr1
  have hgs : (w.alloc zbox).heap.size = w.heap.size + 1 := by simp
  have HR1 := Lib.hid (hk.row HR0.out (by omega))
  have HK1 := Lib.hid (Kept.new HN.out hk)
  have hsz : w.heap.size < w1.heap.size := by have := hk.size; omega
  have HP := Lib.hid hp
  have HSB := Lib.hid hsb
  have E2 := Lib.hid e2
  clear hp hsb hk HC HN HR0 e2
  go_wp2_with fail
  have hnf := new_frame w1 (stopFr 2 0)
  have hz : (w1.alloc zbox).heap[w1.heap.size]? = some zbox := heap_alloc_new w1 zbox
  change wpList Try.prog _ _ _ _ (w1.alloc zbox)
  generalize w1.alloc zbox = W1 at hnf hz ⊢
  refine wpList_store_part rfl 33 _ _ rfl w1.heap.size 0 _ (Fr.cells (stopFr 2 0)) rfl rfl rfl 33 (Fr.cells (stopFr 0 0)) hz fr_size (Nat.le_of_eq rfl) (fr_one _) ?_
  have HN2 := Lib.hid hnf
  clear hnf hz
  generalize World.setRow _ _ _ = w2 at HN2 ⊢
  have k0 := fr_cell HN2.out.1 0 _ rfl
  have HR2 := Lib.hid HN2.out.1
  have HB2 := Lib.hid HN2.out.2
  have hgl : g < w1.heap.size := by omega
  have hs2 : w1.heap.size < w2.heap.size := row_lt HN2.out.1
  have HRes := Lib.hid (below_row HB2.out HR1.out)
  have HK2 := Lib.hid (HK1.out.then (Kept.ofBelow HB2.out))
  have HP2 : Hid (PR w2 g A1 n1 c1 r1) := Lib.hid (HP.out.kept (S := fun _ => False) (Kept.ofBelow HB2.out) (fun h => h) (fun _ _ h => h))
  generalize w1.heap.size = b3 at HR2 hgl hsz hs2 k0 ⊢
  clear HN2 HB2 HP HR1 HK1
  go_wp2_with fail
  have HT := Lib.hid (take_num HP2.out)
  rw [her, hep, ht1] at HT
  refine HT.out.mono ?_
  clear HT her hep ht1
  rintro e w3 (⟨he, rfl, ⟨A2, n2, c2, hp, hsb⟩, hk⟩ | ⟨he, rfl, hk⟩)
  case inr => exact ⟨rfl, .inr ⟨he, rfl, HK2.out.then hk⟩⟩
  have HR3 : Hid (w3.heap[b3]? = some (frbox (stopFr 2 0))) := Lib.hid (hk.row HR2.out (by omega))
  have HRes3 := Lib.hid (hk.row HRes.out (by omega))
  have hap3 : ∀ ad, A2 = some ad → ad.block < w.heap.size := by
    intro ad e
    obtain ⟨ad1, h1, h2⟩ := hsb ad e
    obtain ⟨ad0, h3, h4⟩ := HSB.out ad1 h1
    have := hap ad0 h3
    omega
  have HSB3 : Hid (SameBlock A A2) := Lib.hid (fun ad e => by
    obtain ⟨ad1, h1, h2⟩ := hsb ad e
    obtain ⟨ad0, h3, h4⟩ := HSB.out ad1 h1
    exact ⟨ad0, h3, h2.trans h4⟩)
  have HK3 := Lib.hid (HK2.out.then hk)
  have HP3 := Lib.hid hp
  have HE := Lib.hid he
  clear hp hsb hk HR2 HRes HK2 HP2 HSB k0 he
  have k5 := fr_cell HR3.out 5 _ rfl
  have f5 := frozen_of_row _ _ 5 _ _ HR3.out
  go_upto_region 24 with fail
  have hset := heap_setCell_same w3 b3 5 _ _ (.int .i64 (ep : Int)) HR3.out
  have HR4 : Hid ((w3.setCell ⟨b3, 5, none⟩ (.int .i64 (ep : Int))).heap[b3]? = some (frbox (stopFr 2 (ep : Int)))) := Lib.hid hset
  have hk4 : Kept (· = b3) w3 (w3.setCell ⟨b3, 5, none⟩ (.int .i64 (ep : Int))) := Kept.setCell (S := (· = b3)) w3 ⟨b3, 5, none⟩ rfl _
  have HRes4 := Lib.hid (hk4.row HRes3.out (by omega))
  have HP4 := Lib.hid (HP3.out.kept hk4 (by omega) (fun ad e => by have := hap3 ad e; omega))
  have HK4 : Hid (Kept (· = g) w (w3.setCell ⟨b3, 5, none⟩ (.int .i64 (ep : Int)))) := Lib.hid (HK3.out.trans hk4 (fun i hi e => by omega))
  clear hset hk4 k5 f5 HR3 HRes3 HP3 HK3
  generalize w3.setCell _ _ = w4 at HR4 HRes4 HP4 HK4 ⊢
  have HC4 := Lib.hid (frbox_cells HR4.out)
  obtain ⟨hf1, hf2⟩ := set_frame (h := stopFr 0 0) (stopFr 2 (ep : Int)) HRes4.out
  have HF1 := Lib.hid hf1
  have HK5 : Hid (Kept (· = g) w (w4.setRow w.heap.size (part (stopFr 0 0).cells 0 (stopFr 2 (ep : Int)).cells).toArray)) := Lib.hid (HK4.out.trans hf2 (fun i hi e => by omega))
  have HP5 := Lib.hid (HP4.out.kept hf2 (by omega) (fun ad e => by have := hap3 ad e; omega))
  clear hf1 hf2 HK4 HP4
  go_wp2_with (first | (refine wpList_load_at rfl 33 _ rfl b3 0 (Fr.cells (stopFr 2 (ep : Int))) _ rfl HC4.out Try.underlying33 rfl fr_size ?_; dsimp only [Fr.cells, ev0, sb0]) | (refine wpList_store_part rfl 33 _ _ rfl w.heap.size 0 _ (Fr.cells (stopFr 2 (ep : Int))) rfl rfl rfl 33 (Fr.cells (stopFr 0 0)) HRes4.out fr_size (Nat.le_of_eq rfl) (fr_one _) ?_; generalize World.setRow _ _ _ = w5 at HF1 HK5 HP5 ⊢))
  refine bodyPost_ret (results_cell_row rfl _ _ _ _ _ _ _ rfl HF1.out Try.underlying33 rfl (by kernel_rfl)) rfl ?_
  exact .inl ⟨HE.out, rfl, ⟨A2, n2, c2, by rw [E2.out]; exact HP5.out, HSB3.out⟩, HK5.out⟩
end Go.Proofs.Ytgenmebmdpnjhaa

namespace Go.Proofs.Ytgenmebmdpnjhaa
open Go.RowKit
set_option linter.unusedVariables false
set_option maxRecDepth 100000

/-- Two results, the first in a cell. -/
theorem results_fr_tmp {fn : Func} {p q : Tmp} {ty : TypeId} (h : fn.results = #[.cell p ty, .tmp q]) (tmps : Array Value) (w : World) (g : Nat) (t : TypeId) (cs : Array Value) (fs : Array Field) (v : Value)
    (hp : tmps.getD p undef = .pointer (some ⟨g, 0, none⟩)) (hq : tmps.getD q undef = v) (hg : w.heap[g]? = some (.cells cs t (0, 0)))
    (hu : Try.prog.underlying ty = some (.struct fs)) (hi : (Try.prog.info? ty).map (·.size) = some cs.size) :
    (results fn tmps).run Try.prog w = .ok (.tuple #[.agg cs, v]) w := by
  have hp' : tmps[p]?.getD undef = .pointer (some ⟨g, 0, none⟩) := by simpa using hp
  have hq' : tmps[q]?.getD undef = v := by simpa using hq
  simp only [results, h]
  simp [hp', hq', asAddr, Result.andThen, run_loadVar_row w g t ty cs (0, 0) (.struct fs) hg hu rfl hi]

set_option maxHeartbeats 8000000 in
theorem read1_of {w : World} {g pf : Nat} {A : Option Addr} {r : List Nat} {err : Int} {t : Nat} {f : Fr} (h : Calls Try.prog 11 #[.pointer (some ⟨g, 0, none⟩)] w (FrTook g A r err t f w)) (hf : w.heap[pf]? = some zbox) (hne : ¬ pf = g) :
    Calls Try.prog 10 #[.pointer (some ⟨g, 0, none⟩), .pointer (some ⟨pf, 0, none⟩)] w fun e w5 => ((err = 0 ∧ (∃ v, e = .returned v) ∧ LeftIs w5 g (r.drop t)) ∨ (¬ err = 0 ∧ e = stopped err)) ∧ Kept (fun k => k = g ∨ k = pf) w w5 ∧ (err = 0 → w5.heap[pf]? = some (frbox f)) := by
  have H := Lib.hid h
  have HF := Lib.hid hf
  clear h hf
  go_enter Try.func10, Try.ntmps10
  go_wp2_with fail
  refine H.out.mono ?_
  rintro e w1 (⟨he, rfl, ⟨A1, n1, c1, hp, -⟩, hk⟩ | ⟨he, rfl, hk⟩)
  case inr => exact ⟨rfl, .inr ⟨he, rfl⟩, hk.mono (fun i _ e => .inl e), fun e => absurd e he⟩
  have hz := hk.row HF.out hne
  obtain ⟨hf1, hf2⟩ := set_frame (h := stopFr 0 0) f hz
  have HZ := Lib.hid hz
  have HN := Lib.hid (And.intro hf1 (And.intro ((hk.mono (fun i _ e => Or.inl e)).then (hf2.mono (fun i _ e => Or.inr e))) (hp.left.kept hf2 (fun e => hne e.symm))))
  have HE := Lib.hid he
  clear hz hf1 hf2 hp hk he H HF
  go_wp2_with (first | (refine wpList_store_part rfl 33 _ _ rfl pf 0 _ (Fr.cells f) rfl rfl rfl 33 (Fr.cells (stopFr 0 0)) HZ.out fr_size (Nat.le_of_eq rfl) (fr_one _) ?_; generalize World.setRow _ _ _ = w5 at HN ⊢))
  go_end0
  exact ⟨.inl ⟨HE.out, ⟨_, rfl⟩, HN.out.2.2⟩, HN.out.2.1, fun _ => HN.out.1⟩

/-- What Read tells. -/
def ReadPost (ans : Int) (f : Fr) (w : World) (e : Ending) (w' : World) : Prop := e = .returned (.tuple #[frv (if ans = 0 then f else stopFr 0 0), .int .i64 ans]) ∧ Below w.heap.size w w'

set_option maxHeartbeats 16000000 in
theorem wread_of {w : World} {A : Option Addr} {n c : Nat} {l : List Nat} {err : Int} {t : Nat} {f : Fr} {ans : Int} (hr : Rd w A n c l) (hc : n ≤ c) (hn : n ≤ 4611686018427387904) (h0 : ∀ ad, A = some ad → ad.block < w.heap.size)
    (hans : readAns err (l.drop t) = ans) (hz : ans = 0 → err = 0)
    (h : ∀ (w4 : World) (g : Nat), PR w4 g A n c l → (∀ ad, A = some ad → ad.block < w4.heap.size) → Calls Try.prog 11 #[.pointer (some ⟨g, 0, none⟩)] w4 (FrTook g A l err t f w4)) :
    Calls Try.prog 4 #[.slice A n c] w (ReadPost ans f w) := by
  have hb2 := two_new w zbox zbox
  have hr1 := first_of w zbox zbox
  have hr2 := new_second w zbox zbox
  have hs2 : ((w.alloc zbox).alloc zbox).heap.size = w.heap.size + 2 := by simp
  have HRd := Lib.hid (hr.later hb2)
  have HR1 := Lib.hid hr1
  have HR2 := Lib.hid hr2
  have HB2 := Lib.hid hb2
  have H0 : Hid (∀ ad, A = some ad → ad.block < ((w.alloc zbox).alloc zbox).heap.size) := Lib.hid (fun ad e => by have := h0 ad e; omega)
  have H := Lib.hid h
  clear hb2 hr1 hr2 hr h0 h
  go_enter Try.func4, Try.ntmps4
  go_wp2_with fail
  change Calls _ _ _ ((w.alloc zbox).alloc zbox) _
  generalize (w.alloc zbox).alloc zbox = w2 at HRd HR1 HR2 HB2 H0 hs2 ⊢
  have hF := read_of 10 #[.pointer (some ⟨w.heap.size + 1, 0, none⟩)] HRd.out hc hn H0.out err (l.drop t) (fun k => k = w2.heap.size + 1 ∨ k = w.heap.size + 1) (fun w5 => err = 0 → w5.heap[w.heap.size + 1]? = some (frbox f)) (fun w' => by kernel_rfl) (fun k hk e => by omega) (fun w4 hb4 hs4 hp => by
    refine (read1_of (H.out w4 (w2.heap.size + 1) hp (fun ad e => by have := H0.out ad e; omega)) (below_row hb4 HR2.out) (by omega)).mono ?_
    rintro e w5 ⟨h1, h2, h3⟩
    exact ⟨h1, h2, h3⟩)
  have HF := Lib.hid hF
  clear hF H
  refine HF.out.mono ?_
  rw [hans]
  rintro e w3 ⟨rfl, w5, hq, hk5, hk⟩
  have HR3 : Hid (w3.heap[w.heap.size]? = some zbox) := Lib.hid (hk.row HR1.out (by omega))
  have HK3 : Hid (Below w.heap.size w w3) := Lib.hid (HB2.out.trans (hk.below (by omega) (fun i hi e => by omega)))
  have HQ : Hid (ans = 0 → w3.heap[w.heap.size + 1]? = some (frbox f)) := Lib.hid (fun e => hk5.row (hq (hz e)) (by omega))
  clear hq hk5 hk HF HRd HR1 HR2 HB2 H0
  by_cases ha : ans = 0
  · subst ha
    have hf := HQ.out rfl
    have HC := Lib.hid (frbox_cells hf)
    obtain ⟨hf1, hf2⟩ := set_frame (h := stopFr 0 0) f HR3.out
    have HN := Lib.hid (And.intro hf1 (HK3.out.trans (hf2.below (HK3.out.size) (fun i hi e => by omega))))
    clear hf hf1 hf2 HQ HK3
    go_wp2_with (first | (refine wpList_load_at rfl 33 _ rfl (w.heap.size + 1) 0 f.cells _ rfl HC.out Try.underlying33 rfl fr_size ?_) | (refine wpList_store_part rfl 33 _ _ rfl w.heap.size 0 _ (Fr.cells f) rfl rfl rfl 33 (Fr.cells (stopFr 0 0)) HR3.out fr_size (Nat.le_of_eq rfl) (fr_one _) ?_; generalize World.setRow _ _ _ = w5 at HN ⊢))
    refine bodyPost_ret (results_fr_tmp rfl _ _ _ _ _ _ _ rfl rfl HN.out.1 Try.underlying33 (by kernel_rfl)) rfl ?_
    exact ⟨rfl, HN.out.2⟩
  · obtain ⟨hf1, hf2⟩ := set_frame (h := stopFr 0 0) (stopFr 0 0) HR3.out
    have HN := Lib.hid (And.intro hf1 (HK3.out.trans (hf2.below (HK3.out.size) (fun i hi e => by omega))))
    clear hf1 hf2 HQ HK3
    go_wp2_with (first | (refine wpList_store_part rfl 33 _ _ rfl w.heap.size 0 _ (Fr.cells (stopFr 0 0)) rfl rfl rfl 33 (Fr.cells (stopFr 0 0)) HR3.out fr_size (Nat.le_of_eq rfl) (fr_one _) ?_; generalize World.setRow _ _ _ = w5 at HN ⊢))
    refine bodyPost_ret (results_fr_tmp rfl _ _ _ _ _ _ _ rfl rfl HN.out.1 Try.underlying33 (by kernel_rfl)) rfl ?_
    exact ⟨by rw [if_neg ha]; rfl, HN.out.2⟩
end Go.Proofs.Ytgenmebmdpnjhaa
