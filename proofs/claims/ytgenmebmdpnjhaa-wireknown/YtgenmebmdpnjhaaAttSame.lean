
/- Attributes: which are the same; a copy: the contracts of attr.Same, attr.Copy and of the document's. -/
import Derived.Test.YtgenmebmdpnjhaaAtt
import Derived.Test.YtgenmebmdpnjhaaRefVal
namespace Go.Proofs.Ytgenmebmdpnjhaa
open Go.RowKit

namespace At
def one (a b : Att) : Bool := (a.name.toList == b.name.toList) && Vl.same a.v b.v
def same : List Att → List Att → Bool
  | [], [] => true
  | a :: l, b :: m => one a b && same l m
  | _, _ => false
theorem same_len : ∀ {l m : List Att}, same l m = true → l.length = m.length
  | [], [], _ => rfl
  | a :: l, b :: m, h => by simp only [same, Bool.and_eq_true] at h; simp [same_len h.2]
  | [], _ :: _, h => by simp [same] at h
  | _ :: _, [], h => by simp [same] at h
theorem other_len {l m : List Att} (h : ¬ l.length = m.length) : same l m = false := by
  cases hs : same l m
  · rfl
  · exact absurd (same_len hs) h
theorem same_bad {l m : List Att} {k : Nat} {a b : Att} (h : l[k]? = some a) (g : m[k]? = some b) (hp : same l m = same (l.drop k) (m.drop k)) (hb : one a b = false) : same l m = false := by
  rw [hp, drop_at h, drop_at g, same, hb]; rfl
theorem same_good {l m : List Att} {k : Nat} {a b : Att} (h : l[k]? = some a) (g : m[k]? = some b) (hp : same l m = same (l.drop k) (m.drop k)) (hb : one a b = true) : same l m = same (l.drop (k + 1)) (m.drop (k + 1)) := by
  rw [hp, drop_at h, drop_at g, same, hb]; simp
theorem same_end {l m : List Att} {k : Nat} (h : ¬ k < l.length) (he : m.length = l.length) (hp : same l m = same (l.drop k) (m.drop k)) : same l m = true := by
  rw [hp, List.drop_eq_nil_of_le (by omega), List.drop_eq_nil_of_le (by omega), same]
end At

set_option maxHeartbeats 4000000 in
theorem asame_any {A B : Option Addr} {n c n' c' : Nat} {l m : List Att} {w : World} (h : Ats w A n l) (h' : Ats w B n' m) :
    Calls Try.prog 46 #[.slice A n c, .slice B n' c'] w fun e w' => e = .returned (.bool (At.same l m)) ∧ Below w.heap.size w w' := by
  obtain rfl := h.len.symm
  obtain rfl := h'.len.symm
  have hn := h.few
  have hn' := h'.few
  have HA := Lib.hid h
  have HA' := Lib.hid h'
  clear h h'
  by_cases hlen : l.length = m.length
  case neg =>
    have HM := Lib.hid (At.other_len hlen)
    have hlen' : ¬ (l.length : Int) = (m.length : Int) := by omega
    go_enter Try.func46, Try.ntmps46
    go_wp2_with fail
    go_ret
    exact ⟨by rw [HM.out]; rfl, Below.refl _ _⟩
  have hme : m.length = l.length := hlen.symm
  rw [hme] at HA' hn' ⊢
  clear hlen
  go_enter Try.func46, Try.ntmps46
  go_wp2_with fail
  go_loopw [13] (fun ii wr => ∃ k : Nat, k ≤ l.length ∧ ii = .int .i64 (k : Int) ∧ At.same l m = At.same (l.drop k) (m.drop k) ∧ Below w.heap.size w wr) (fun ii _ => l.length - (intOf ii).toNat)
  case atStart => exact ⟨0, by omega, rfl, rfl, Below.refl _ _⟩
  case round =>
    obtain ⟨k, hk, rfl, hl, hB⟩ := hrel
    have HL := Lib.hid hl
    have HB := Lib.hid hB
    clear hl hB
    by_cases hlt : k < l.length
    · obtain ⟨g, o, rfl, hg⟩ := HA.out.at (by omega)
      obtain ⟨g', o', rfl, hg'⟩ := HA'.out.at (by omega)
      obtain ⟨a, ha⟩ : ∃ a, l[k]? = some a := ⟨_, List.getElem?_eq_getElem hlt⟩
      obtain ⟨b, hb⟩ : ∃ b, m[k]? = some b := ⟨_, List.getElem?_eq_getElem (by omega)⟩
      have HG := Lib.hid ha
      have HG' := Lib.hid hb
      have hs := fun x : Later wr => ((hg k a ha).later HB.out).later x.below
      have hs' := fun x : Later wr => ((hg' k b hb).later HB.out).later x.below
      obtain ⟨an, ak, am, ax, az, ab⟩ := a
      obtain ⟨bn, bk, bm, bx, bz, bb⟩ := b
      have c0 := fun x : Later wr => (hs x).h0
      have c1 := fun x : Later wr => (hs x).h1
      have c2 := fun x : Later wr => (hs x).h2
      have c3 := fun x : Later wr => (hs x).h3
      have c4 := fun x : Later wr => (hs x).h4
      have c5 := fun x : Later wr => (hs x).h5
      have d0 := fun x : Later wr => (hs' x).h0
      have d1 := fun x : Later wr => (hs' x).h1
      have d2 := fun x : Later wr => (hs' x).h2
      have d3 := fun x : Later wr => (hs' x).h3
      have d4 := fun x : Later wr => (hs' x).h4
      have d5 := fun x : Later wr => (hs' x).h5
      clear hg ha hs hg' hs' hb
      haveI := later_some wr
      cases hw : (an.toList == bn.toList)
      · have HM := Lib.hid (At.same_bad HG.out HG'.out HL.out (by simp only [At.one]; rw [hw]; rfl))
        go_wp2_with fail
        refine wp_region_later (W := wr) (by kernel_rfl) (by kernel_rfl) (Below.refl _ _) ?_
        repeat (go_big_quiet_step (first | (go_at_call 67; exact calls_later (vsame_any _ _ _ _ _ _ _ _ _ _ _))))
        refine wpQuiet_nil ?_
        rintro _ ⟨x, rfl⟩
        go_wp2_with fail
        go_ret
        exact ⟨by rw [HM.out]; rfl, below_then HB.out x.below⟩
      · cases hr : Vl.same ⟨ak, am, ax, az, ab⟩ ⟨bk, bm, bx, bz, bb⟩
        · have HM := Lib.hid (At.same_bad HG.out HG'.out HL.out (by simp only [At.one]; rw [hw, hr]; rfl))
          go_wp2_with fail
          refine wp_region_later (W := wr) (by kernel_rfl) (by kernel_rfl) (Below.refl _ _) ?_
          repeat (go_big_quiet_step (first | (go_at_call 67; exact calls_later (vsame_any _ _ _ _ _ _ _ _ _ _ _))))
          refine wpQuiet_nil ?_
          rintro _ ⟨x, rfl⟩
          go_wp2_with fail
          go_ret
          exact ⟨by rw [HM.out]; rfl, below_then HB.out x.below⟩
        · have HM := Lib.hid (At.same_good HG.out HG'.out HL.out (by simp only [At.one]; rw [hw, hr]; rfl))
          go_wp2_with fail
          refine wp_region_later (W := wr) (by kernel_rfl) (by kernel_rfl) (Below.refl _ _) ?_
          repeat (go_big_quiet_step (first | (go_at_call 67; exact calls_later (vsame_any _ _ _ _ _ _ _ _ _ _ _))))
          refine wpQuiet_nil ?_
          rintro _ ⟨x, rfl⟩
          go_wp2_with fail
          exact ⟨⟨k + 1, by omega, rfl, HM.out, below_then HB.out x.below⟩, by simp [intOf]; omega⟩
    · have HM := Lib.hid (At.same_end hlt hme HL.out)
      go_wp2_with fail
      go_ret
      exact ⟨by rw [HM.out]; rfl, HB.out⟩

theorem att_info : (Try.prog.info? 44).map (fun i => (i.zero, i.size, i.bytes)) = some (some (av ⟨⟨#[]⟩, At.z0⟩), 6, 64) := by kernel_rfl
abbrev fresh (w : World) (n : Nat) : World := w.alloc (.cells (madeCells (av ⟨⟨#[]⟩, At.z0⟩).cells (n * 6)) 44)
theorem make_att (w : World) (n : Nat) (hn : n ≤ 1000000) : (Instr.makeSlice 22 (.int .i64 (n : Int)) (.int .i64 (n : Int))).run Try.prog w = .ok (.slice (some ⟨w.heap.size, 0, none⟩) n n) (fresh w n) := by
  obtain ⟨i, hi, hz, h1, h2⟩ := info_at att_info
  have := run_make (P := Try.prog) w 22 44 i _ Try.underlying22 hi hz .i64 .i64 n n (by omega) (Int.le_refl _) (by rw [h2]; omega) (by omega)
  rw [h1] at this
  exact this
theorem copy_att {A : Option Addr} {n c : Nat} {l : List Att} (w : World) (h : Ats w A n l) (ty : TypeId) : (Builtin.copy_ #[22, 22] ty #[.slice (some ⟨w.heap.size, 0, none⟩) n n, .slice A n c]).run Try.prog (fresh w n) = .ok (goInt n) ((fresh w n).setRow w.heap.size (flat l).toArray) := by
  have hm : madeCells (av ⟨⟨#[]⟩, At.z0⟩).cells (n * 6) = (madeCells (av ⟨⟨#[]⟩, At.z0⟩).cells (n * 6)).toList.toArray := by simp
  refine run_copyw (fresh w n) _ _ ty 44 n n c w.heap.size A (madeCells (av ⟨⟨#[]⟩, At.z0⟩).cells (n * 6)).toList (flat l) Try.underlying22 (by kernel_rfl) ?_ ?_ (h.row.later (one_new _ _)) (flat_one l)
  · rw [← hm]; exact heap_alloc_new _ _
  · simp [madeCells]
/-- What Copy tells: the same, in a block of its own. -/
def CopyPost (w : World) (n : Nat) (l : List Att) (e : Ending) (w' : World) : Prop :=
  e = .returned (.slice (some ⟨w.heap.size, 0, none⟩) n n) ∧ w'.heap[w.heap.size]? = some (.cells (flat l).toArray 44 (0, 0)) ∧ Below w.heap.size w w'
end Go.Proofs.Ytgenmebmdpnjhaa
