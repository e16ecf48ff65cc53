/- G15: WireTake, WireRead0, WireRead1, WireKnown1 in one text. -/
import Derived.Test.YtgenmebmdpnjhaaGreatWireRight1
import Derived.Test.YtgenmebmdpnjhaaGreatPackRead
import Derived.Test.YtgenmebmdpnjhaaGreatWireLay3
import Derived.Test.YtgenmebmdpnjhaaGreatG1c
import Derived.Laws.IdiomStrings
namespace Go.Proofs.YtgenmebmdpnjhaaGreat
open Go.RowKit
set_option linter.unusedVariables false
set_option maxRecDepth 100000

/-- What a number that must be right tells: 0, or which error. -/
def takeErr (p : Int → Bool) (r : List Nat) : Int := if natErr r = 0 then (if p (natVal r : Int) = true then 0 else 3) else natErr r
set_option maxHeartbeats 4000000 in
theorem take_num {w : World} {g : Nat} {A : Option Addr} {n c : Nat} {r : List Nat} (h : PR w g A n c r) :
    Calls Tryz.prog 91 #[.pointer (some ⟨g, 0, none⟩), .func (.func 26) #[] #[]] w (PTookS g A r (takeErr Wr.num r) (natTaken r) (.int .i64 (natVal r : Int)) w) := by
  have HC := Lib.hid (pnatr_at h)
  have HE : Hid (takeErr Wr.num r = if natErr r = 0 then (if Wr.num (natVal r : Int) = true then 0 else 3) else natErr r) := Lib.hid rfl
  clear h
  generalize takeErr Wr.num r = er at HE ⊢
  generalize natErr r = err at HC HE
  generalize natVal r = v at HC HE ⊢
  generalize natTaken r = t at HC ⊢
  go_enter Tryz.func91, Tryz.ntmps91
  go_wp2_with fail
  refine HC.out.mono ?_
  rintro e w1 (⟨he, rfl, hp, hk⟩ | ⟨he, rfl, hk⟩)
  · have HP := Lib.hid (And.intro hp hk)
    have hE := HE.out
    rw [if_pos he] at hE
    clear hp hk HC HE he
    cases hq : Wr.num (v : Int)
    · rw [hq] at hE
      have HE := Lib.hid hE
      clear hE
      go_wp2_with (first | (go_at_call 26; refine (isnum_at hq).mono ?_; rintro e w' ⟨rfl, rfl⟩) | (go_at_call 123; refine (need_err 3 rfl _).mono ?_; rintro e w' ⟨rfl, rfl⟩))
      exact ⟨rfl, .inr ⟨by rw [HE.out]; decide, by rw [HE.out]; rfl, HP.out.2⟩⟩
    · rw [hq] at hE
      have HE := Lib.hid hE
      clear hE
      go_wp2_with (first | (go_at_call 26; refine (isnum_at hq).mono ?_; rintro e w' ⟨rfl, rfl⟩) | (go_at_call 123; refine (need_ok 3 _).mono ?_; rintro e w' ⟨rfl, rfl⟩))
      go_ret
      exact .inl ⟨by rw [HE.out]; rfl, rfl, HP.out.1, HP.out.2⟩
  · have hE := HE.out
    rw [if_neg he] at hE
    exact ⟨rfl, .inr ⟨by rw [hE]; exact he, by rw [hE], hk⟩⟩
set_option maxHeartbeats 4000000 in
theorem take_broker {w : World} {g : Nat} {A : Option Addr} {n c : Nat} {r : List Nat} (h : PR w g A n c r) :
    Calls Tryz.prog 91 #[.pointer (some ⟨g, 0, none⟩), .func (.func 28) #[] #[]] w (PTookS g A r (takeErr Wr.broker r) (natTaken r) (.int .i64 (natVal r : Int)) w) := by
  have HC := Lib.hid (pnatr_at h)
  have HE : Hid (takeErr Wr.broker r = if natErr r = 0 then (if Wr.broker (natVal r : Int) = true then 0 else 3) else natErr r) := Lib.hid rfl
  clear h
  generalize takeErr Wr.broker r = er at HE ⊢
  generalize natErr r = err at HC HE
  generalize natVal r = v at HC HE ⊢
  generalize natTaken r = t at HC ⊢
  go_enter Tryz.func91, Tryz.ntmps91
  go_wp2_with fail
  refine HC.out.mono ?_
  rintro e w1 (⟨he, rfl, hp, hk⟩ | ⟨he, rfl, hk⟩)
  · have HP := Lib.hid (And.intro hp hk)
    have hE := HE.out
    rw [if_pos he] at hE
    clear hp hk HC HE he
    cases hq : Wr.broker (v : Int)
    · rw [hq] at hE
      have HE := Lib.hid hE
      clear hE
      go_wp2_with (first | (go_at_call 28; refine (isbroker_at hq).mono ?_; rintro e w' ⟨rfl, rfl⟩) | (go_at_call 123; refine (need_err 3 rfl _).mono ?_; rintro e w' ⟨rfl, rfl⟩))
      exact ⟨rfl, .inr ⟨by rw [HE.out]; decide, by rw [HE.out]; rfl, HP.out.2⟩⟩
    · rw [hq] at hE
      have HE := Lib.hid hE
      clear hE
      go_wp2_with (first | (go_at_call 28; refine (isbroker_at hq).mono ?_; rintro e w' ⟨rfl, rfl⟩) | (go_at_call 123; refine (need_ok 3 _).mono ?_; rintro e w' ⟨rfl, rfl⟩))
      go_ret
      exact .inl ⟨by rw [HE.out]; rfl, rfl, HP.out.1, HP.out.2⟩
  · have hE := HE.out
    rw [if_neg he] at hE
    exact ⟨rfl, .inr ⟨by rw [hE]; exact he, by rw [hE], hk⟩⟩
set_option maxHeartbeats 4000000 in
theorem take_client {w : World} {g : Nat} {A : Option Addr} {n c : Nat} {r : List Nat} (h : PR w g A n c r) :
    Calls Tryz.prog 91 #[.pointer (some ⟨g, 0, none⟩), .func (.func 30) #[] #[]] w (PTookS g A r (takeErr Wr.client r) (natTaken r) (.int .i64 (natVal r : Int)) w) := by
  have HC := Lib.hid (pnatr_at h)
  have HE : Hid (takeErr Wr.client r = if natErr r = 0 then (if Wr.client (natVal r : Int) = true then 0 else 3) else natErr r) := Lib.hid rfl
  clear h
  generalize takeErr Wr.client r = er at HE ⊢
  generalize natErr r = err at HC HE
  generalize natVal r = v at HC HE ⊢
  generalize natTaken r = t at HC ⊢
  go_enter Tryz.func91, Tryz.ntmps91
  go_wp2_with fail
  refine HC.out.mono ?_
  rintro e w1 (⟨he, rfl, hp, hk⟩ | ⟨he, rfl, hk⟩)
  · have HP := Lib.hid (And.intro hp hk)
    have hE := HE.out
    rw [if_pos he] at hE
    clear hp hk HC HE he
    cases hq : Wr.client (v : Int)
    · rw [hq] at hE
      have HE := Lib.hid hE
      clear hE
      go_wp2_with (first | (go_at_call 30; refine (isclient_at hq).mono ?_; rintro e w' ⟨rfl, rfl⟩) | (go_at_call 123; refine (need_err 3 rfl _).mono ?_; rintro e w' ⟨rfl, rfl⟩))
      exact ⟨rfl, .inr ⟨by rw [HE.out]; decide, by rw [HE.out]; rfl, HP.out.2⟩⟩
    · rw [hq] at hE
      have HE := Lib.hid hE
      clear hE
      go_wp2_with (first | (go_at_call 30; refine (isclient_at hq).mono ?_; rintro e w' ⟨rfl, rfl⟩) | (go_at_call 123; refine (need_ok 3 _).mono ?_; rintro e w' ⟨rfl, rfl⟩))
      go_ret
      exact .inl ⟨by rw [HE.out]; rfl, rfl, HP.out.1, HP.out.2⟩
  · have hE := HE.out
    rw [if_neg he] at hE
    exact ⟨rfl, .inr ⟨by rw [hE]; exact he, by rw [hE], hk⟩⟩
set_option maxHeartbeats 4000000 in
theorem take_cnt {w : World} {g : Nat} {A : Option Addr} {n c : Nat} {r : List Nat} (h : PR w g A n c r) :
    Calls Tryz.prog 91 #[.pointer (some ⟨g, 0, none⟩), .func (.func 31) #[] #[]] w (PTookS g A r (takeErr Wr.cnt r) (natTaken r) (.int .i64 (natVal r : Int)) w) := by
  have HC := Lib.hid (pnatr_at h)
  have HE : Hid (takeErr Wr.cnt r = if natErr r = 0 then (if Wr.cnt (natVal r : Int) = true then 0 else 3) else natErr r) := Lib.hid rfl
  clear h
  generalize takeErr Wr.cnt r = er at HE ⊢
  generalize natErr r = err at HC HE
  generalize natVal r = v at HC HE ⊢
  generalize natTaken r = t at HC ⊢
  go_enter Tryz.func91, Tryz.ntmps91
  go_wp2_with fail
  refine HC.out.mono ?_
  rintro e w1 (⟨he, rfl, hp, hk⟩ | ⟨he, rfl, hk⟩)
  · have HP := Lib.hid (And.intro hp hk)
    have hE := HE.out
    rw [if_pos he] at hE
    clear hp hk HC HE he
    cases hq : Wr.cnt (v : Int)
    · rw [hq] at hE
      have HE := Lib.hid hE
      clear hE
      go_wp2_with (first | (go_at_call 31; refine (iscnt_at hq).mono ?_; rintro e w' ⟨rfl, rfl⟩) | (go_at_call 123; refine (need_err 3 rfl _).mono ?_; rintro e w' ⟨rfl, rfl⟩))
      exact ⟨rfl, .inr ⟨by rw [HE.out]; decide, by rw [HE.out]; rfl, HP.out.2⟩⟩
    · rw [hq] at hE
      have HE := Lib.hid hE
      clear hE
      go_wp2_with (first | (go_at_call 31; refine (iscnt_at hq).mono ?_; rintro e w' ⟨rfl, rfl⟩) | (go_at_call 123; refine (need_ok 3 _).mono ?_; rintro e w' ⟨rfl, rfl⟩))
      go_ret
      exact .inl ⟨by rw [HE.out]; rfl, rfl, HP.out.1, HP.out.2⟩
  · have hE := HE.out
    rw [if_neg he] at hE
    exact ⟨rfl, .inr ⟨by rw [hE]; exact he, by rw [hE], hk⟩⟩
end Go.Proofs.YtgenmebmdpnjhaaGreat

namespace Go.Proofs.YtgenmebmdpnjhaaGreat
open Go.RowKit
set_option linter.unusedVariables false
set_option maxRecDepth 100000

/-- A frame of a Kind and an Epoch alone. -/
abbrev stopFr (k ep : Int) : Fr := ⟨k, 0, 0, 0, 0, ep, ev0, false, sb0, none, 0, []⟩
/-- How takeFrame ends: with such a frame, t bytes behind; or it Stops. -/
def FrTook (g : Nat) (A : Option Addr) (r : List Nat) (err : Int) (t : Nat) (f : Fr) (w : World) (e : Ending) (w' : World) : Prop :=
  (err = 0 ∧ e = .returned (frv f) ∧ (∃ A' n c, PR w' g A' n c (r.drop t) ∧ SameBlock A A') ∧ Kept (· = g) w w') ∨ (¬ err = 0 ∧ e = stopped err ∧ Kept (· = g) w w')
abbrev zbox : Obj := frbox (stopFr 0 0)
theorem fr_one (f : Fr) : ∀ u ∈ f.cells, u.oneCell' = true := by
  intro u hu
  simp only [Fr.cells, List.mem_cons, List.not_mem_nil, or_false] at hu
  rcases hu with rfl | rfl | rfl | rfl | rfl | rfl | rfl | rfl | rfl | rfl | rfl | rfl | rfl | rfl | rfl | rfl | rfl | rfl | rfl <;> rfl
theorem part_fr (f h : Fr) : part h.cells 0 f.cells = f.cells := rfl
/-- A frame stored over another one. -/
theorem set_frame {w : World} {g : Nat} {h : Fr} (f : Fr) (hg : w.heap[g]? = some (frbox h)) : (w.setRow g (part h.cells 0 f.cells).toArray).heap[g]? = some (frbox f) ∧ Kept (· = g) w (w.setRow g (part h.cells 0 f.cells).toArray) := by
  rw [part_fr]
  exact ⟨setRow_heap w g _ f.cells.toArray _ _ hg, Kept.setRow _ _ _⟩
/-- A frame in a block just made. -/
theorem new_frame (w : World) (f : Fr) : ((w.alloc zbox).setRow w.heap.size (part (stopFr 0 0).cells 0 f.cells).toArray).heap[w.heap.size]? = some (frbox f) ∧ Below w.heap.size w ((w.alloc zbox).setRow w.heap.size (part (stopFr 0 0).cells 0 f.cells).toArray) := by
  obtain ⟨h1, h2⟩ := set_frame f (heap_alloc_new w zbox)
  exact ⟨h1, (one_new w zbox).trans (h2.below (one_new w zbox).size (fun k hk e => by omega))⟩
theorem Kept.new {S : Nat → Prop} {w w1 w' : World} (h : Below w.heap.size w w1) (k : Kept S w1 w') : Kept S w w' := (Kept.ofBelow h).then k

set_option maxHeartbeats 8000000 in
theorem takeframe_short {w : World} {g : Nat} {A : Option Addr} {n c : Nat} {r : List Nat} (h : PR w g A n c r) (hap : ∀ ad, A = some ad → ad.block < w.heap.size) (he : ¬ natErr r = 0) :
    Calls Tryz.prog 52 #[.pointer (some ⟨g, 0, none⟩)] w (FrTook g A r (natErr r) 0 (stopFr 0 0) w) := by
  have hn := one_new w zbox
  have hg : g < w.heap.size := cell_lt h.c0
  have h1 : PR (w.alloc zbox) g A n c r := h.kept (S := fun _ => False) (Kept.ofBelow hn) (fun h => h) (fun _ _ h => h)
  have HC := Lib.hid (pnatr_at h1)
  have HN := Lib.hid hn
  clear h h1 hn
  generalize natErr r = err at HC he ⊢
  generalize natVal r = v at HC
  generalize natTaken r = t at HC
  go_enter Tryz.func52, Tryz.ntmps52
  go_wp2_with fail
  refine HC.out.mono ?_
  rintro e w1 (⟨he2, rfl, hp, hk⟩ | ⟨he2, rfl, hk⟩)
  · exact absurd he2 he
  · exact ⟨rfl, .inr ⟨he, rfl, Kept.new HN.out hk⟩⟩

set_option maxHeartbeats 8000000 in
theorem takeframe_none {w : World} {g : Nat} {A : Option Addr} {n c : Nat} {r : List Nat} (h : PR w g A n c r) (he : natErr r = 0) (hv : ¬ (natVal r : Int) = 1 ∧ ¬ (natVal r : Int) = 2 ∧ ¬ (natVal r : Int) = 3 ∧ ¬ (natVal r : Int) = 4 ∧ ¬ (natVal r : Int) = 5 ∧ ¬ (natVal r : Int) = 6 ∧ ¬ (natVal r : Int) = 7 ∧ ¬ (natVal r : Int) = 8) :
    Calls Tryz.prog 52 #[.pointer (some ⟨g, 0, none⟩)] w (FrTook g A r 3 0 (stopFr 0 0) w) := by
  have hn := one_new w zbox
  have hg : g < w.heap.size := cell_lt h.c0
  have h1 : PR (w.alloc zbox) g A n c r := h.kept (S := fun _ => False) (Kept.ofBelow hn) (fun h => h) (fun _ _ h => h)
  have HC := Lib.hid (pnatr_at h1)
  have HN := Lib.hid hn
  clear h h1 hn
  generalize natErr r = err at HC he
  generalize natVal r = v at HC hv
  generalize natTaken r = t at HC
  obtain ⟨v1, v2, v3, v4, v5, v6, v7, v8⟩ := hv
  subst he
  go_enter Tryz.func52, Tryz.ntmps52
  go_upto_region 1 with fail
  refine region_split 4 ?_
  simp only [List.take_succ_cons, List.take_zero, List.drop_succ_cons, List.drop_zero]
  go_wp2_with fail
  refine HC.out.mono ?_
  rintro e w1 (⟨-, rfl, hp, hk⟩ | ⟨he2, -⟩)
  case inr => exact absurd rfl he2
  have HK := Lib.hid (Kept.new HN.out hk)
  clear hp hk HC HN
  go_wp2_with fail
  have hnf := new_frame w1 (stopFr v 0)
  have hz : (w1.alloc zbox).heap[w1.heap.size]? = some zbox := heap_alloc_new w1 zbox
  change wpList Tryz.prog _ _ _ _ (w1.alloc zbox)
  generalize w1.alloc zbox = W1 at hnf hz ⊢
  refine wpList_store_part rfl 38 _ _ rfl w1.heap.size 0 _ (Fr.cells (stopFr v 0)) rfl rfl rfl 38 (Fr.cells (stopFr 0 0)) hz fr_size (Nat.le_of_eq rfl) (fr_one _) ?_
  have HN2 := Lib.hid hnf
  clear hnf hz
  generalize World.setRow _ _ _ = w2 at HN2 ⊢
  have k0 := fr_cell HN2.out.1 0 _ rfl
  have HK2 := Lib.hid (HK.out.then (Kept.ofBelow HN2.out.2))
  clear HN2 HK
  go_wp2_with (go_at_call 94; refine (stop_err 3 rfl _).mono ?_; rintro e w' ⟨rfl, rfl⟩)
  exact ⟨rfl, .inr ⟨by decide, rfl, HK2.out⟩⟩

set_option maxHeartbeats 16000000 in
theorem takeframe_stop {w : World} {g : Nat} {A : Option Addr} {n c : Nat} {r r1 : List Nat} {er : Int} {ep t t1 : Nat} (h : PR w g A n c r) (hap : ∀ ad, A = some ad → ad.block < w.heap.size) (he : natErr r = 0) (hv : natVal r = 2)
    (ht : natTaken r = t) (hr1 : r.drop t = r1) (her : takeErr Wr.num r1 = er) (hep : natVal r1 = ep) (ht1 : natTaken r1 = t1) :
    Calls Tryz.prog 52 #[.pointer (some ⟨g, 0, none⟩)] w (FrTook g A r er (t + t1) (stopFr 2 (ep : Int)) w) := by
  have hn := one_new w zbox
  have HR0 := Lib.hid (heap_alloc_new w zbox)
  have hg : g < w.heap.size := cell_lt h.c0
  have h1 : PR (w.alloc zbox) g A n c r := h.kept (S := fun _ => False) (Kept.ofBelow hn) (fun h => h) (fun _ _ h => h)
  have HC := Lib.hid (pnatr_at h1)
  have HN := Lib.hid hn
  rw [he, hv, ht] at HC
  clear h h1 hn he hv ht
  have e2 : r.drop (t + t1) = r1.drop t1 := by rw [← hr1, List.drop_drop]
  go_enter Tryz.func52, Tryz.ntmps52
  go_upto_region 1 with fail
  refine region_split 4 ?_
  simp only [List.take_succ_cons, List.take_zero, List.drop_succ_cons, List.drop_zero]
  go_wp2_with fail
  refine HC.out.mono ?_
  rintro e w1 (⟨-, rfl, ⟨A1, n1, c1, hp, hsb⟩, hk⟩ | ⟨he2, -⟩)
  case inr => exact absurd rfl he2
  rw [hr1] at hp
  clear hr1
  have hgs : (w.alloc zbox).heap.size = w.heap.size + 1 := by simp
  have HR1 := Lib.hid (hk.row HR0.out (by omega))
  have HK1 := Lib.hid (Kept.new HN.out hk)
  have hsz : w.heap.size < w1.heap.size := by have := hk.size; omega
  have HP := Lib.hid hp
  have HSB := Lib.hid hsb
  have E2 := Lib.hid e2
  clear hp hsb hk HC HN HR0 e2
  go_wp2_with fail
  have hnf := new_frame w1 (stopFr 2 0)
  have hz : (w1.alloc zbox).heap[w1.heap.size]? = some zbox := heap_alloc_new w1 zbox
  change wpList Tryz.prog _ _ _ _ (w1.alloc zbox)
  generalize w1.alloc zbox = W1 at hnf hz ⊢
  refine wpList_store_part rfl 38 _ _ rfl w1.heap.size 0 _ (Fr.cells (stopFr 2 0)) rfl rfl rfl 38 (Fr.cells (stopFr 0 0)) hz fr_size (Nat.le_of_eq rfl) (fr_one _) ?_
  have HN2 := Lib.hid hnf
  clear hnf hz
  generalize World.setRow _ _ _ = w2 at HN2 ⊢
  have k0 := fr_cell HN2.out.1 0 _ rfl
  have HR2 := Lib.hid HN2.out.1
  have HB2 := Lib.hid HN2.out.2
  have hgl : g < w1.heap.size := by omega
  have hs2 : w1.heap.size < w2.heap.size := row_lt HN2.out.1
  have HRes := Lib.hid (below_row HB2.out HR1.out)
  have HK2 := Lib.hid (HK1.out.then (Kept.ofBelow HB2.out))
  have HP2 : Hid (PR w2 g A1 n1 c1 r1) := Lib.hid (HP.out.kept (S := fun _ => False) (Kept.ofBelow HB2.out) (fun h => h) (fun _ _ h => h))
  generalize w1.heap.size = b3 at HR2 hgl hsz hs2 k0 ⊢
  clear HN2 HB2 HP HR1 HK1
  go_wp2_with fail
  have HT := Lib.hid (take_num HP2.out)
  rw [her, hep, ht1] at HT
  refine HT.out.mono ?_
  clear HT her hep ht1
  rintro e w3 (⟨he, rfl, ⟨A2, n2, c2, hp, hsb⟩, hk⟩ | ⟨he, rfl, hk⟩)
  case inr => exact ⟨rfl, .inr ⟨he, rfl, HK2.out.then hk⟩⟩
  have HR3 : Hid (w3.heap[b3]? = some (frbox (stopFr 2 0))) := Lib.hid (hk.row HR2.out (by omega))
  have HRes3 := Lib.hid (hk.row HRes.out (by omega))
  have hap3 : ∀ ad, A2 = some ad → ad.block < w.heap.size := by
    intro ad e
    obtain ⟨ad1, h1, h2⟩ := hsb ad e
    obtain ⟨ad0, h3, h4⟩ := HSB.out ad1 h1
    have := hap ad0 h3
    omega
  have HSB3 : Hid (SameBlock A A2) := Lib.hid (fun ad e => by
    obtain ⟨ad1, h1, h2⟩ := hsb ad e
    obtain ⟨ad0, h3, h4⟩ := HSB.out ad1 h1
    exact ⟨ad0, h3, h2.trans h4⟩)
  have HK3 := Lib.hid (HK2.out.then hk)
  have HP3 := Lib.hid hp
  have HE := Lib.hid he
  clear hp hsb hk HR2 HRes HK2 HP2 HSB k0 he
  have k5 := fr_cell HR3.out 5 _ rfl
  have f5 := frozen_of_row _ _ 5 _ _ HR3.out
  go_upto_region 24 with fail
  have hset := heap_setCell_same w3 b3 5 _ _ (.int .i64 (ep : Int)) HR3.out
  have HR4 : Hid ((w3.setCell ⟨b3, 5, none⟩ (.int .i64 (ep : Int))).heap[b3]? = some (frbox (stopFr 2 (ep : Int)))) := Lib.hid hset
  have hk4 : Kept (· = b3) w3 (w3.setCell ⟨b3, 5, none⟩ (.int .i64 (ep : Int))) := Kept.setCell (S := (· = b3)) w3 ⟨b3, 5, none⟩ rfl _
  have HRes4 := Lib.hid (hk4.row HRes3.out (by omega))
  have HP4 := Lib.hid (HP3.out.kept hk4 (by omega) (fun ad e => by have := hap3 ad e; omega))
  have HK4 : Hid (Kept (· = g) w (w3.setCell ⟨b3, 5, none⟩ (.int .i64 (ep : Int)))) := Lib.hid (HK3.out.trans hk4 (fun i hi e => by omega))
  clear hset hk4 k5 f5 HR3 HRes3 HP3 HK3
  generalize w3.setCell _ _ = w4 at HR4 HRes4 HP4 HK4 ⊢
  have HC4 := Lib.hid (frbox_cells HR4.out)
  obtain ⟨hf1, hf2⟩ := set_frame (h := stopFr 0 0) (stopFr 2 (ep : Int)) HRes4.out
  have HF1 := Lib.hid hf1
  have HK5 : Hid (Kept (· = g) w (w4.setRow w.heap.size (part (stopFr 0 0).cells 0 (stopFr 2 (ep : Int)).cells).toArray)) := Lib.hid (HK4.out.trans hf2 (fun i hi e => by omega))
  have HP5 := Lib.hid (HP4.out.kept hf2 (by omega) (fun ad e => by have := hap3 ad e; omega))
  clear hf1 hf2 HK4 HP4
  go_wp2_with (first | (refine wpList_load_at rfl 38 _ rfl b3 0 (Fr.cells (stopFr 2 (ep : Int))) _ rfl HC4.out Tryz.underlying38 rfl fr_size ?_; dsimp only [Fr.cells, ev0, sb0]) | (refine wpList_store_part rfl 38 _ _ rfl w.heap.size 0 _ (Fr.cells (stopFr 2 (ep : Int))) rfl rfl rfl 38 (Fr.cells (stopFr 0 0)) HRes4.out fr_size (Nat.le_of_eq rfl) (fr_one _) ?_; generalize World.setRow _ _ _ = w5 at HF1 HK5 HP5 ⊢))
  refine bodyPost_ret (results_cell_row rfl _ _ _ _ _ _ _ rfl HF1.out Tryz.underlying38 rfl (by kernel_rfl)) rfl ?_
  exact .inl ⟨HE.out, rfl, ⟨A2, n2, c2, by rw [E2.out]; exact HP5.out, HSB3.out⟩, HK5.out⟩
end Go.Proofs.YtgenmebmdpnjhaaGreat

namespace Go.Proofs.YtgenmebmdpnjhaaGreat
open Go.RowKit
set_option linter.unusedVariables false
set_option maxRecDepth 100000

/-- Two results, the first in a cell. -/
theorem results_fr_tmp {fn : Func} {p q : Tmp} {ty : TypeId} (h : fn.results = #[.cell p ty, .tmp q]) (tmps : Array Value) (w : World) (g : Nat) (t : TypeId) (cs : Array Value) (fs : Array Field) (v : Value)
    (hp : tmps.getD p undef = .pointer (some ⟨g, 0, none⟩)) (hq : tmps.getD q undef = v) (hg : w.heap[g]? = some (.cells cs t (0, 0)))
    (hu : Tryz.prog.underlying ty = some (.struct fs)) (hi : (Tryz.prog.info? ty).map (·.size) = some cs.size) :
    (results fn tmps).run Tryz.prog w = .ok (.tuple #[.agg cs, v]) w := by
  have hp' : tmps[p]?.getD undef = .pointer (some ⟨g, 0, none⟩) := by simpa using hp
  have hq' : tmps[q]?.getD undef = v := by simpa using hq
  simp only [results, h]
  simp [hp', hq', asAddr, Result.andThen, run_loadVar_row w g t ty cs (0, 0) (.struct fs) hg hu rfl hi]

set_option maxHeartbeats 8000000 in
theorem read1_of {w : World} {g pf : Nat} {A : Option Addr} {r : List Nat} {err : Int} {t : Nat} {f : Fr} (h : Calls Tryz.prog 52 #[.pointer (some ⟨g, 0, none⟩)] w (FrTook g A r err t f w)) (hf : w.heap[pf]? = some zbox) (hne : ¬ pf = g) :
    Calls Tryz.prog 51 #[.pointer (some ⟨g, 0, none⟩), .pointer (some ⟨pf, 0, none⟩)] w fun e w5 => ((err = 0 ∧ (∃ v, e = .returned v) ∧ LeftIs w5 g (r.drop t)) ∨ (¬ err = 0 ∧ e = stopped err)) ∧ Kept (fun k => k = g ∨ k = pf) w w5 ∧ (err = 0 → w5.heap[pf]? = some (frbox f)) := by
  have H := Lib.hid h
  have HF := Lib.hid hf
  clear h hf
  go_enter Tryz.func51, Tryz.ntmps51
  go_wp2_with fail
  refine H.out.mono ?_
  rintro e w1 (⟨he, rfl, ⟨A1, n1, c1, hp, -⟩, hk⟩ | ⟨he, rfl, hk⟩)
  case inr => exact ⟨rfl, .inr ⟨he, rfl⟩, hk.mono (fun i _ e => .inl e), fun e => absurd e he⟩
  have hz := hk.row HF.out hne
  obtain ⟨hf1, hf2⟩ := set_frame (h := stopFr 0 0) f hz
  have HZ := Lib.hid hz
  have HN := Lib.hid (And.intro hf1 (And.intro ((hk.mono (fun i _ e => Or.inl e)).then (hf2.mono (fun i _ e => Or.inr e))) (hp.left.kept hf2 (fun e => hne e.symm))))
  have HE := Lib.hid he
  clear hz hf1 hf2 hp hk he H HF
  go_wp2_with (first | (refine wpList_store_part rfl 38 _ _ rfl pf 0 _ (Fr.cells f) rfl rfl rfl 38 (Fr.cells (stopFr 0 0)) HZ.out fr_size (Nat.le_of_eq rfl) (fr_one _) ?_; generalize World.setRow _ _ _ = w5 at HN ⊢))
  go_end0
  exact ⟨.inl ⟨HE.out, ⟨_, rfl⟩, HN.out.2.2⟩, HN.out.2.1, fun _ => HN.out.1⟩

/-- What Read tells. -/
def ReadPost (ans : Int) (f : Fr) (w : World) (e : Ending) (w' : World) : Prop := e = .returned (.tuple #[frv (if ans = 0 then f else stopFr 0 0), .int .i64 ans]) ∧ Below w.heap.size w w'

set_option maxHeartbeats 16000000 in
theorem wread_of {w : World} {A : Option Addr} {n c : Nat} {l : List Nat} {err : Int} {t : Nat} {f : Fr} {ans : Int} (hr : Rd w A n c l) (hc : n ≤ c) (hn : n ≤ 4611686018427387904) (h0 : ∀ ad, A = some ad → ad.block < w.heap.size)
    (hans : readAns err (l.drop t) = ans) (hz : ans = 0 → err = 0)
    (h : ∀ (w4 : World) (g : Nat), PR w4 g A n c l → (∀ ad, A = some ad → ad.block < w4.heap.size) → Calls Tryz.prog 52 #[.pointer (some ⟨g, 0, none⟩)] w4 (FrTook g A l err t f w4)) :
    Calls Tryz.prog 18 #[.slice A n c] w (ReadPost ans f w) := by
  have hb2 := two_new w zbox zbox
  have hr1 := first_of w zbox zbox
  have hr2 := new_second w zbox zbox
  have hs2 : ((w.alloc zbox).alloc zbox).heap.size = w.heap.size + 2 := by simp
  have HRd := Lib.hid (hr.later hb2)
  have HR1 := Lib.hid hr1
  have HR2 := Lib.hid hr2
  have HB2 := Lib.hid hb2
  have H0 : Hid (∀ ad, A = some ad → ad.block < ((w.alloc zbox).alloc zbox).heap.size) := Lib.hid (fun ad e => by have := h0 ad e; omega)
  have H := Lib.hid h
  clear hb2 hr1 hr2 hr h0 h
  go_enter Tryz.func18, Tryz.ntmps18
  go_wp2_with fail
  change Calls _ _ _ ((w.alloc zbox).alloc zbox) _
  generalize (w.alloc zbox).alloc zbox = w2 at HRd HR1 HR2 HB2 H0 hs2 ⊢
  have hF := read_of 51 #[.pointer (some ⟨w.heap.size + 1, 0, none⟩)] HRd.out hc hn H0.out err (l.drop t) (fun k => k = w2.heap.size + 1 ∨ k = w.heap.size + 1) (fun w5 => err = 0 → w5.heap[w.heap.size + 1]? = some (frbox f)) (fun w' => by kernel_rfl) (fun k hk e => by omega) (fun w4 hb4 hs4 hp => by
    refine (read1_of (H.out w4 (w2.heap.size + 1) hp (fun ad e => by have := H0.out ad e; omega)) (below_row hb4 HR2.out) (by omega)).mono ?_
    rintro e w5 ⟨h1, h2, h3⟩
    exact ⟨h1, h2, h3⟩)
  have HF := Lib.hid hF
  clear hF H
  refine HF.out.mono ?_
  rw [hans]
  rintro e w3 ⟨rfl, w5, hq, hk5, hk⟩
  have HR3 : Hid (w3.heap[w.heap.size]? = some zbox) := Lib.hid (hk.row HR1.out (by omega))
  have HK3 : Hid (Below w.heap.size w w3) := Lib.hid (HB2.out.trans (hk.below (by omega) (fun i hi e => by omega)))
  have HQ : Hid (ans = 0 → w3.heap[w.heap.size + 1]? = some (frbox f)) := Lib.hid (fun e => hk5.row (hq (hz e)) (by omega))
  clear hq hk5 hk HF HRd HR1 HR2 HB2 H0
  by_cases ha : ans = 0
  · subst ha
    have hf := HQ.out rfl
    have HC := Lib.hid (frbox_cells hf)
    obtain ⟨hf1, hf2⟩ := set_frame (h := stopFr 0 0) f HR3.out
    have HN := Lib.hid (And.intro hf1 (HK3.out.trans (hf2.below (HK3.out.size) (fun i hi e => by omega))))
    clear hf hf1 hf2 HQ HK3
    go_wp2_with (first | (refine wpList_load_at rfl 38 _ rfl (w.heap.size + 1) 0 f.cells _ rfl HC.out Tryz.underlying38 rfl fr_size ?_) | (refine wpList_store_part rfl 38 _ _ rfl w.heap.size 0 _ (Fr.cells f) rfl rfl rfl 38 (Fr.cells (stopFr 0 0)) HR3.out fr_size (Nat.le_of_eq rfl) (fr_one _) ?_; generalize World.setRow _ _ _ = w5 at HN ⊢))
    refine bodyPost_ret (results_fr_tmp rfl _ _ _ _ _ _ _ rfl rfl HN.out.1 Tryz.underlying38 (by kernel_rfl)) rfl ?_
    exact ⟨rfl, HN.out.2⟩
  · obtain ⟨hf1, hf2⟩ := set_frame (h := stopFr 0 0) (stopFr 0 0) HR3.out
    have HN := Lib.hid (And.intro hf1 (HK3.out.trans (hf2.below (HK3.out.size) (fun i hi e => by omega))))
    clear hf1 hf2 HQ HK3
    go_wp2_with (first | (refine wpList_store_part rfl 38 _ _ rfl w.heap.size 0 _ (Fr.cells (stopFr 0 0)) rfl rfl rfl 38 (Fr.cells (stopFr 0 0)) HR3.out fr_size (Nat.le_of_eq rfl) (fr_one _) ?_; generalize World.setRow _ _ _ = w5 at HN ⊢))
    refine bodyPost_ret (results_fr_tmp rfl _ _ _ _ _ _ _ rfl rfl HN.out.1 Tryz.underlying38 (by kernel_rfl)) rfl ?_
    exact ⟨by rw [if_neg ha]; rfl, HN.out.2⟩
end Go.Proofs.YtgenmebmdpnjhaaGreat

namespace Go.Proofs.YtgenmebmdpnjhaaGreat
open Go.RowKit
set_option linter.unusedVariables false
set_option maxRecDepth 100000

theorem rd_new (w : World) (l : List Nat) : Rd (w.alloc (.cells (l.map bcell).toArray 5)) (some ⟨w.heap.size, 0, none⟩) l.length l.length l := by
  refine ⟨rfl, .inr ⟨w.heap.size, 0, rfl, fun j u hj => ?_⟩⟩
  rw [World.cell?_alloc_new, Nat.zero_add]
  simp [hj]
theorem ownb_rd {B n c : Nat} {w : World} {A : Option Addr} {l : List Nat} (h : OwnW 1 B 5 w (.slice A n c) l.length (l.map bcell)) : n = l.length ∧ Rd w A l.length c l := by
  obtain ⟨A', c', e, -, -, hr, -, -, h0⟩ := h.reads
  cases e
  refine ⟨rfl, rfl, ?_⟩
  rcases hr.2 with h1 | ⟨g, o, rfl, hc⟩
  · have hl : l = [] := by simpa using h1
    subst hl
    rcases A with - | z
    · exact .inl ⟨rfl, rfl, (h0 rfl).2⟩
    · rcases h.1.2 with ⟨e, -⟩ | ⟨g, cap, cur, e, -⟩
      · cases e
      · cases e
        exact .inr ⟨g, 0, rfl, fun j u hj => by simp at hj⟩
  · exact .inr ⟨g, o, rfl, fun j u hj => hc j _ (by rw [List.getElem?_map, hj]; rfl)⟩
theorem conv_bytes {w : World} {A : Option Addr} {n c : Nat} {l : List Nat} (h : Rd w A n c l) : (convert 23 9 (.slice A n c)).run Tryz.prog w = .ok (.string (tstr l)) w := by
  obtain ⟨rfl, h⟩ := h
  rcases h with ⟨rfl, h0, rfl⟩ | ⟨rb, ro, rfl, hc⟩
  · have e : l = [] := List.eq_nil_of_length_eq_zero h0
    subst e
    exact run_convert_bytes_nil w 23 5 Tryz.underlying23 Tryz.underlying5 0 0 9 Tryz.underlying9
  · refine run_convert_bytes_arg w 23 5 Tryz.underlying23 Tryz.underlying5 rb ro l.length _ (l.map (fun b : Nat => (b : Int))) (by simp) (fun i hi => ?_) 9 Tryz.underlying9
    rw [hc i _ (List.getElem?_eq_getElem hi)]
    simp [hi]
/-- A Read of the examples. -/
def KR (F : Fr) (ans : Int) (w : World) (e : Ending) (w' : World) : Prop := e = .returned (.tuple #[frv F, .int .i64 ans]) ∧ Below w.heap.size w w'
theorem kr_of {w : World} {l : List Nat} {ans : Int} {f : Fr} (F : Fr) (h : Calls Tryz.prog 18 #[.slice (some ⟨w.heap.size, 0, none⟩) l.length l.length] (w.alloc (.cells (l.map bcell).toArray 5)) (ReadPost ans f (w.alloc (.cells (l.map bcell).toArray 5)))) (hF : (if ans = 0 then f else stopFr 0 0) = F) :
    Calls Tryz.prog 18 #[.slice (some ⟨w.heap.size, 0, none⟩) l.length l.length] (w.alloc (.cells (l.map bcell).toArray 5)) (KR F ans w) := by
  subst hF
  exact h.mono fun e w' ⟨he, hb⟩ => ⟨he, below_then (one_new _ _) hb⟩
theorem kread_2 (w : World) : Calls Tryz.prog 18 #[.slice (some ⟨w.heap.size, 0, none⟩) 1 1] (w.alloc (.cells #[.int .u8 2] 5)) (KR (stopFr 0 0) 2 w) :=
  kr_of (l := [2]) (stopFr 0 0) (wread_of (err := 2) (t := 1 + 1) (f := stopFr 2 (0 : Nat)) (ans := 2) (rd_new w [2]) (Nat.le_refl _) (by decide) (fun ad e => by cases e; simp) (by decide) (fun h => absurd h (by decide)) (fun w4 g hp hap => takeframe_stop (r := [2]) (r1 := []) (er := 2) (ep := 0) (t := 1) (t1 := 1) hp hap (by decide) (by decide) (by decide) rfl (by decide) (by decide) (by decide))) rfl
theorem kread_9 (w : World) : Calls Tryz.prog 18 #[.slice (some ⟨w.heap.size, 0, none⟩) 1 1] (w.alloc (.cells #[.int .u8 9] 5)) (KR (stopFr 0 0) 3 w) :=
  kr_of (l := [9]) (stopFr 0 0) (wread_of (err := 3) (t := 0) (f := stopFr 0 0) (ans := 3) (rd_new w [9]) (Nat.le_refl _) (by decide) (fun ad e => by cases e; simp) (by decide) (fun h => absurd h (by decide)) (fun w4 g hp hap => takeframe_none (r := [9]) hp (by decide) (by decide))) rfl
theorem kread_234 (w : World) : Calls Tryz.prog 18 #[.slice (some ⟨w.heap.size, 0, none⟩) 3 3] (w.alloc (.cells #[.int .u8 2, .int .u8 3, .int .u8 4] 5)) (KR (stopFr 0 0) 3 w) :=
  kr_of (l := [2, 3, 4]) (stopFr 0 0) (wread_of (err := 0) (t := 1 + 1) (f := stopFr 2 (3 : Nat)) (ans := 3) (rd_new w [2, 3, 4]) (Nat.le_refl _) (by decide) (fun ad e => by cases e; simp) (by decide) (fun h => absurd h (by decide)) (fun w4 g hp hap => takeframe_stop (r := [2, 3, 4]) (r1 := [3, 4]) (er := 0) (ep := 3) (t := 1) (t1 := 1) hp hap (by decide) (by decide) (by decide) rfl (by decide) (by decide) (by decide))) rfl
theorem kread_23 (w : World) : Calls Tryz.prog 18 #[.slice (some ⟨w.heap.size, 0, none⟩) 2 2] (w.alloc (.cells #[.int .u8 2, .int .u8 3] 5)) (KR (stopFr 2 3) 0 w) :=
  kr_of (l := [2, 3]) (stopFr 2 3) (wread_of (err := 0) (t := 1 + 1) (f := stopFr 2 (3 : Nat)) (ans := 0) (rd_new w [2, 3]) (Nat.le_refl _) (by decide) (fun ad e => by cases e; simp) (by decide) (fun _ => rfl) (fun w4 g hp hap => takeframe_stop (r := [2, 3]) (r1 := [3]) (er := 0) (ep := 3) (t := 1) (t1 := 1) hp hap (by decide) (by decide) (by decide) rfl (by decide) (by decide) (by decide))) rfl
theorem kread_nil (w : World) : Calls Tryz.prog 18 #[.slice none 0 0] w (KR (stopFr 0 0) 2 w) :=
  (wread_of (l := []) (err := 2) (t := 0) (f := stopFr 0 0) (ans := 2) (rd_nil w) (Nat.le_refl _) (by decide) (fun ad e => by cases e) (by decide) (fun h => absurd h (by decide)) (fun w4 g hp hap => takeframe_short (r := []) hp hap (by decide))).mono fun e w' ⟨he, hb⟩ => ⟨he, hb⟩
end Go.Proofs.YtgenmebmdpnjhaaGreat
