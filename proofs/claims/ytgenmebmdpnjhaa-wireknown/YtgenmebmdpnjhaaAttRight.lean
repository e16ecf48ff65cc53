
/- Attributes: which are right; the contracts of attr.Right and of the document's. -/
import Derived.Test.YtgenmebmdpnjhaaAtt
import Derived.Test.YtgenmebmdpnjhaaRefVal
namespace Go.Proofs.Ytgenmebmdpnjhaa
open Go.RowKit

namespace At
theorem less_or : ∀ a b : List UInt8, (Op.bytesLess a b || a == b) = !Op.bytesLess b a
  | [], [] => by simp [Op.bytesLess]
  | [], b :: l => by simp [Op.bytesLess]
  | a :: l, [] => by simp [Op.bytesLess]
  | a :: l, b :: m => by
    have ih := less_or l m
    simp only [Op.bytesLess]
    by_cases h : a < b
    · have h2 : ¬ b < a := fun g => absurd (UInt8.lt_trans h g) (UInt8.lt_irrefl _)
      have h3 : ¬ b = a := fun e => by subst e; exact absurd h (UInt8.lt_irrefl _)
      simp [h, h2, h3]
    · by_cases g : b < a
      · have h3 : ¬ a = b := fun e => by subst e; exact absurd g (UInt8.lt_irrefl _)
        simp [h, g, h3]
      · obtain rfl : a = b := UInt8.le_antisymm (UInt8.not_lt.1 g) (UInt8.not_lt.1 h)
        simp [h, ← ih]
/-- Above what came before. -/
def above (p : Option ByteArray) (s : ByteArray) : Bool := match p with | none => true | some q => Op.bytesLess q.toList s.toList
def okFrom : Option ByteArray → List Att → Bool
  | _, [] => true
  | p, a :: l => (word a.name && Vl.right a.v && above p a.name) && okFrom (some a.name) l
def right (l : List Att) : Bool := decide (l.length ≤ 5) && okFrom none l
/-- The name ahead of place k. -/
def prev (l : List Att) (k : Nat) : Option ByteArray := if k = 0 then none else (l[k - 1]?).map (·.name)
theorem ok_step {l : List Att} {k : Nat} {a : Att} (h : l[k]? = some a) : okFrom (prev l k) (l.drop k) = ((word a.name && Vl.right a.v && above (prev l k) a.name) && okFrom (prev l (k + 1)) (l.drop (k + 1))) := by
  rw [drop_at h, okFrom]
  simp [prev, h]
theorem bad_at {l : List Att} {k : Nat} {a : Att} (h : l[k]? = some a) (hp : okFrom none l = okFrom (prev l k) (l.drop k)) (hb : (word a.name && Vl.right a.v && above (prev l k) a.name) = false) : right l = false := by
  unfold right
  rw [hp, ok_step h, hb]; simp
theorem good_at {l : List Att} {k : Nat} {a : Att} (h : l[k]? = some a) (hp : okFrom none l = okFrom (prev l k) (l.drop k)) (hb : (word a.name && Vl.right a.v && above (prev l k) a.name) = true) : okFrom none l = okFrom (prev l (k + 1)) (l.drop (k + 1)) := by
  rw [hp, ok_step h, hb]; simp
theorem good_end {l : List Att} {k : Nat} (h : ¬ k < l.length) (hp : okFrom none l = okFrom (prev l k) (l.drop k)) : right l = decide (l.length ≤ 5) := by
  unfold right
  rw [hp, List.drop_eq_nil_of_le (by omega)]; simp [okFrom]
theorem prev_at {l : List Att} {k : Nat} {a : Att} (h : l[k]? = some a) : prev l (k + 1) = some a.name := by simp [prev, h]
end At

set_option maxHeartbeats 2000000 in
theorem aright_any {A : Option Addr} {n c : Nat} {l : List Att} {w : World} (h : Ats w A n l) :
    Calls Try.prog 43 #[.slice A n c] w fun e w' => e = .returned (.bool (At.right l)) ∧ Below w.heap.size w w' := by
  obtain rfl := h.len.symm
  have hn := h.few
  have HA := Lib.hid h
  have hst := store_float
  clear h
  by_cases h5 : 5 < l.length
  · have HR : Hid (At.right l = false) := by
      have : At.right l = false := by unfold At.right; rw [decide_eq_false (by omega)]; rfl
      exact this
    go_enter Try.func43, Try.ntmps43
    go_wp2_with fail
    go_ret
    exact ⟨by rw [HR.out]; rfl, Below.refl _ _⟩
  go_enter Try.func43, Try.ntmps43
  go_wp2_with fail
  go_loopw [10] (fun ii wr => ∃ k : Nat, k ≤ l.length ∧ ii = .int .i64 (k : Int) ∧ At.okFrom none l = At.okFrom (At.prev l k) (l.drop k) ∧ Below w.heap.size w wr) (fun ii _ => l.length - (intOf ii).toNat)
  case atStart => exact ⟨0, by omega, rfl, rfl, Below.refl _ _⟩
  case round =>
    obtain ⟨k, hk, rfl, hl, hB⟩ := hrel
    have HL := Lib.hid hl
    have HB := Lib.hid hB
    clear hl hB
    by_cases hlt : k < l.length
    · obtain ⟨g, o, rfl, hg⟩ := HA.out.at (by omega)
      obtain ⟨a, ha⟩ : ∃ a, l[k]? = some a := ⟨_, List.getElem?_eq_getElem hlt⟩
      have HG := Lib.hid ha
      have hz := HA.out.names a (List.mem_of_getElem? ha)
      have HS := Lib.hid ((hg k a ha).later HB.out)
      have HGG := Lib.hid hg
      obtain ⟨an, ak, am, ax, az, ab⟩ := a
      obtain ⟨c0, c1, c2, c3, c4, c5⟩ := HS.out
      clear hg ha
      cases hw : At.word an
      · have HM := Lib.hid (At.bad_at HG.out HL.out (by rw [hw]; rfl))
        go_wp2_with (go_at_call 65; refine (word_any _ hz _).mono ?_; rintro e w' ⟨rfl, rfl⟩)
        go_ret
        exact ⟨by rw [HM.out]; rfl, below_then HB.out (one_new _ _)⟩
      · go_wp2_with (first | (go_at_call 65; refine (word_any _ hz _).mono ?_; rintro e w' ⟨rfl, rfl⟩) | fail)
        refine (vright_any _ _ _ _ _ _).mono ?_
        rintro e w2 ⟨rfl, hb⟩
        have HB2 := Lib.hid (below_then (below_then HB.out (one_new _ _)) hb)
        have d0 : w2.cell? ⟨wr.heap.size, 0, none⟩ = some (.string an) := (hb.cell (by simp)).trans (by simp)
        have hlr := HB.out.size
        clear c0 c1 c2 c3 c4 c5 hb HS
        cases hr : Vl.right ⟨ak, am, ax, az, ab⟩
        · have HM := Lib.hid (At.bad_at HG.out HL.out (by rw [hw, hr]; rfl))
          go_wp2_with fail
          go_ret
          exact ⟨by rw [HM.out]; rfl, HB2.out⟩
        · by_cases hk0 : k = 0
          · subst hk0
            have HM := Lib.hid (At.good_at HG.out HL.out (by rw [hw, hr]; rfl))
            go_wp2_with fail
            go_quiet (fail)
            go_wp2_with fail
            exact ⟨⟨1, by omega, rfl, HM.out, below_drewN HB2.out _⟩, by simp [intOf]; omega⟩
          · obtain ⟨q, rfl⟩ : ∃ q, k = q + 1 := ⟨k - 1, by omega⟩
            obtain ⟨b, hb⟩ : ∃ b, l[q]? = some b := ⟨_, List.getElem?_eq_getElem (by omega)⟩
            have d1 := ((HGG.out q b hb).later HB2.out).h0
            have hp := At.prev_at hb
            generalize b.name = bn at d1 hp
            have u1 : IntKind.i64.wrap ((q : Int) + 1 - 1) = q := by rw [show (q : Int) + 1 - 1 = q by omega]; exact IntWalk.i64_in _ (by omega)
            have hle := At.less_or an.toList bn.toList
            cases hless : Op.bytesLess bn.toList an.toList
            · have HM := Lib.hid (At.bad_at HG.out HL.out (by rw [hw, hr, hp]; simp [At.above, hless]))
              rw [hless] at hle
              clear hp hb hless
              go_wp2_with fail
              go_quiet (fail)
              go_wp2_with fail
              go_ret
              exact ⟨by rw [HM.out]; rfl, below_drewN HB2.out _⟩
            · have HM := Lib.hid (At.good_at HG.out HL.out (by rw [hw, hr, hp]; simp [At.above, hless]))
              rw [hless] at hle
              clear hp hb hless
              go_wp2_with fail
              go_quiet (fail)
              go_wp2_with fail
              exact ⟨⟨q + 1 + 1, by omega, rfl, HM.out, below_drewN HB2.out _⟩, by simp [intOf]; omega⟩
    · have HM := Lib.hid (At.good_end hlt HL.out)
      go_wp2_with fail
      go_ret
      exact ⟨by rw [HM.out, decide_eq_true (show l.length ≤ 5 by omega)]; rfl, HB.out⟩
end Go.Proofs.Ytgenmebmdpnjhaa
