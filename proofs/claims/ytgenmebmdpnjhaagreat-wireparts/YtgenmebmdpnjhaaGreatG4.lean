/- G4: Att, AttRight, AttSame in one text. -/
import Derived.Test.YtgenmebmdpnjhaaGreatG1b
import Derived.Test.YtgenmebmdpnjhaaGreatG1c
import Derived.Laws.ResultCell
import Derived.Test.YtgenmebmdpnjhaaGreatRefVal
namespace Go.Proofs.YtgenmebmdpnjhaaGreat
open Go.RowKit

/-- An attribute of package api: Name, V. -/
structure Att where
  name : ByteArray
  v : Val
/-- Its six cells. -/
def Att.cells (a : Att) : List Value := [.string a.name, .int .i64 a.v.k, .int .i64 a.v.n, .float .f64 a.v.x, .string a.v.s, .bool a.v.b]
theorem Att.cells_len (a : Att) : a.cells.length = 6 := rfl
abbrev av (a : Att) : Value := .agg #[.string a.name, .int .i64 a.v.k, .int .i64 a.v.n, .float .f64 a.v.x, .string a.v.s, .bool a.v.b]
abbrev vlw (v : Val) : Value := vl v.k v.n v.x v.s v.b
/-- The six cells of an attribute at p of block g. -/
structure Six (w : World) (g p : Nat) (a : Att) : Prop where
  h0 : w.cell? ⟨g, p, none⟩ = some (.string a.name)
  h1 : w.cell? ⟨g, p + 1, none⟩ = some (.int .i64 a.v.k)
  h2 : w.cell? ⟨g, p + 2, none⟩ = some (.int .i64 a.v.n)
  h3 : w.cell? ⟨g, p + 3, none⟩ = some (.float .f64 a.v.x)
  h4 : w.cell? ⟨g, p + 4, none⟩ = some (.string a.v.s)
  h5 : w.cell? ⟨g, p + 5, none⟩ = some (.bool a.v.b)
theorem Six.kept {S : Nat → Prop} {w w' : World} {g p : Nat} {a : Att} (h : Six w g p a) (k : Kept S w w') (hs : ¬ S g) : Six w' g p a :=
  have hg : g < w.heap.size := cell_lt h.h0
  ⟨(k.cell (p := ⟨g, _, none⟩) hg hs).trans h.h0, (k.cell (p := ⟨g, _, none⟩) hg hs).trans h.h1, (k.cell (p := ⟨g, _, none⟩) hg hs).trans h.h2, (k.cell (p := ⟨g, _, none⟩) hg hs).trans h.h3, (k.cell (p := ⟨g, _, none⟩) hg hs).trans h.h4, (k.cell (p := ⟨g, _, none⟩) hg hs).trans h.h5⟩
theorem Six.later {w w' : World} {g p : Nat} {a : Att} (h : Six w g p a) (k : Below w.heap.size w w') : Six w' g p a := h.kept (S := fun _ => False) (Kept.ofBelow k) id
theorem Six.lt {w : World} {g p : Nat} {a : Att} (h : Six w g p a) : g < w.heap.size := cell_lt h.h0

abbrev flat (l : List Att) : List Value := l.flatMap Att.cells
theorem flat_one (l : List Att) : ∀ u ∈ flat l, u.oneCell' = true := by
  intro u hu
  obtain ⟨a, -, ha⟩ := List.mem_flatMap.1 hu
  simp only [Att.cells, List.mem_cons, List.not_mem_nil, or_false] at ha
  rcases ha with rfl | rfl | rfl | rfl | rfl | rfl <;> rfl
/-- A slice reads as a row of attributes. -/
structure Ats (w : World) (A : Option Addr) (n : Nat) (l : List Att) : Prop where
  row : Rs 6 w A n (flat l)
  names : ∀ a, a ∈ l → a.name.size ≤ 9223372036854775807
  few : n ≤ 9223372036854775807
theorem Ats.len {w : World} {A : Option Addr} {n : Nat} {l : List Att} (h : Ats w A n l) : l.length = n := by
  have := h.row.1
  rw [flat_len _ Att.cells_len] at this
  omega
theorem Ats.later {w w' : World} {A : Option Addr} {n : Nat} {l : List Att} (h : Ats w A n l) (k : Below w.heap.size w w') : Ats w' A n l := ⟨h.row.later k, h.names, h.few⟩
theorem Ats.kept {S : Nat → Prop} {w w' : World} {A : Option Addr} {n : Nat} {l : List Att} (h : Ats w A n l) (k : Kept S w w') (hs : ∀ x, A = some x → ¬ S x.block) : Ats w' A n l := ⟨h.row.kept k hs, h.names, h.few⟩
theorem Ats.at {w : World} {A : Option Addr} {n : Nat} {l : List Att} (h : Ats w A n l) (h0 : 0 < l.length) : ∃ g o, A = some ⟨g, o, none⟩ ∧ ∀ i a, l[i]? = some a → Six w g (o + i * 6) a := by
  have hp : 0 < (flat l).length := by rw [flat_len _ Att.cells_len]; omega
  rcases h.row.2 with h1 | ⟨g, o, rfl, hc⟩
  · rw [h1] at hp; simp at hp
  · refine ⟨g, o, rfl, fun i a hi => ?_⟩
    have hj : ∀ j u, a.cells[j]? = some u → w.cell? ⟨g, o + i * 6 + j, none⟩ = some u := by
      intro j u hu
      have hlt : j < 6 := (List.getElem?_eq_some_iff.1 hu).1
      have := hc (i * 6 + j) u (by rw [flat_get _ Att.cells_len l i j a hi hlt]; exact hu)
      rw [← Nat.add_assoc] at this
      exact this
    exact ⟨hj 0 _ rfl, hj 1 _ rfl, hj 2 _ rfl, hj 3 _ rfl, hj 4 _ rfl, hj 5 _ rfl⟩

namespace At
/-- The zero value. -/
def z0 : Val := ⟨0, 0, 0, ⟨#[]⟩, false⟩
def find (l : List Att) (s : ByteArray) : Option Att := l.find? fun a => a.name.toList == s.toList
def got (l : List Att) (s : ByteArray) : Val := match find l s with | some a => a.v | none => z0
def has (l : List Att) (s : ByteArray) : Bool := (find l s).isSome
theorem drop_at {α : Type} {l : List α} {k : Nat} {a : α} (h : l[k]? = some a) : l.drop k = a :: l.drop (k + 1) := by
  obtain ⟨hk, rfl⟩ := List.getElem?_eq_some_iff.1 h
  exact List.drop_eq_getElem_cons hk
theorem find_hit {l : List Att} {k : Nat} {a : Att} {s : ByteArray} (h : l[k]? = some a) (hp : find l s = find (l.drop k) s) (he : (a.name.toList == s.toList) = true) : find l s = some a := by
  rw [hp, drop_at h, find, List.find?_cons, he]
theorem find_miss {l : List Att} {k : Nat} {a : Att} {s : ByteArray} (h : l[k]? = some a) (hp : find l s = find (l.drop k) s) (he : (a.name.toList == s.toList) = false) : find l s = find (l.drop (k + 1)) s := by
  rw [hp, drop_at h, find, List.find?_cons, he]; rfl
theorem find_none {l : List Att} {k : Nat} {s : ByteArray} (h : ¬ k < l.length) (hp : find l s = find (l.drop k) s) : find l s = none := by
  rw [hp, List.drop_eq_nil_of_le (by omega)]; rfl
theorem got_of {l : List Att} {s : ByteArray} {a : Att} (h : find l s = some a) : got l s = a.v := by unfold got; rw [h]
theorem has_of {l : List Att} {s : ByteArray} {a : Att} (h : find l s = some a) : has l s = true := by unfold has; rw [h]; rfl
theorem got_none {l : List Att} {s : ByteArray} (h : find l s = none) : got l s = z0 := by unfold got; rw [h]
theorem has_none {l : List Att} {s : ByteArray} (h : find l s = none) : has l s = false := by unfold has; rw [h]; rfl
end At

theorem results_row_tmp {fn : Func} {p u : Tmp} (h : fn.results = #[.cell p 64, .tmp u]) {tmps : Array Value} {w : World} {g : Nat} {t : TypeId} {cs : Array Value} {fr : Nat × Nat}
    (hp : tmps.getD p undef = .pointer (some ⟨g, 0, none⟩)) (hg : w.heap[g]? = some (.cells cs t fr)) (hi : (Tryz.prog.info? 64).map (·.size) = some cs.size) :
    (results fn tmps).run Tryz.prog w = .ok (.tuple #[.agg cs, tmps.getD u undef]) w := by
  rw [results_cell_tmp h, hp]
  have hl := run_loadVar_row (P := Tryz.prog) w g t 64 cs fr _ hg Tryz.underlying64 rfl hi
  simp [asAddr, hl]

abbrev row0 (w : World) (g : Nat) : Prop := w.heap[g]? = some (zero5 64)
theorem below_rowa {w w' : World} {g : Nat} {o : Obj} (k : Below w.heap.size w w') (h : w.heap[g]? = some o) : w'.heap[g]? = some o := by
  have hlt : g < w.heap.size := (Array.getElem?_eq_some_iff.1 h).1
  rw [k.block g hlt]; exact h
theorem below_five {w w' : World} {g : Nat} {v0 v1 v2 v3 v4 : Value} (h : Below w.heap.size w w') (hg : w.heap.size ≤ g) : Below w.heap.size w (set5 w' g v0 v1 v2 v3 v4) :=
  ((Kept.ofBelow (S := fun _ => False) h).to5 v0 v1 v2 v3 v4 hg).below (Nat.le_refl _) (fun _ _ => id)
abbrev gotv (l : List Att) (s : ByteArray) : Value := .tuple #[vlw (At.got l s), .bool (At.has l s)]
theorem got_val {l : List Att} {s : ByteArray} {a : Att} (h : At.find l s = some a) : Ending.returned (.tuple #[vlw a.v, .bool true]) = .returned (gotv l s) := by unfold gotv; rw [At.got_of h, At.has_of h]
theorem got_zero {l : List Att} {s : ByteArray} (h : At.find l s = none) : Ending.returned (.tuple #[vlw At.z0, .bool false]) = .returned (gotv l s) := by unfold gotv; rw [At.got_none h, At.has_none h]

end Go.Proofs.YtgenmebmdpnjhaaGreat

namespace Go.Proofs.YtgenmebmdpnjhaaGreat
open Go.RowKit

namespace At
theorem less_or : ∀ a b : List UInt8, (Op.bytesLess a b || a == b) = !Op.bytesLess b a
  | [], [] => by simp [Op.bytesLess]
  | [], b :: l => by simp [Op.bytesLess]
  | a :: l, [] => by simp [Op.bytesLess]
  | a :: l, b :: m => by
    have ih := less_or l m
    simp only [Op.bytesLess]
    by_cases h : a < b
    · have h2 : ¬ b < a := fun g => absurd (UInt8.lt_trans h g) (UInt8.lt_irrefl _)
      have h3 : ¬ b = a := fun e => by subst e; exact absurd h (UInt8.lt_irrefl _)
      simp [h, h2, h3]
    · by_cases g : b < a
      · have h3 : ¬ a = b := fun e => by subst e; exact absurd g (UInt8.lt_irrefl _)
        simp [h, g, h3]
      · obtain rfl : a = b := UInt8.le_antisymm (UInt8.not_lt.1 g) (UInt8.not_lt.1 h)
        simp [h, ← ih]
/-- Above what came before. -/
def above (p : Option ByteArray) (s : ByteArray) : Bool := match p with | none => true | some q => Op.bytesLess q.toList s.toList
def okFrom : Option ByteArray → List Att → Bool
  | _, [] => true
  | p, a :: l => (word a.name && Vl.right a.v && above p a.name) && okFrom (some a.name) l
def right (l : List Att) : Bool := decide (l.length ≤ 5) && okFrom none l
/-- The name ahead of place k. -/
def prev (l : List Att) (k : Nat) : Option ByteArray := if k = 0 then none else (l[k - 1]?).map (·.name)
theorem ok_step {l : List Att} {k : Nat} {a : Att} (h : l[k]? = some a) : okFrom (prev l k) (l.drop k) = ((word a.name && Vl.right a.v && above (prev l k) a.name) && okFrom (prev l (k + 1)) (l.drop (k + 1))) := by
  rw [drop_at h, okFrom]
  simp [prev, h]
theorem bad_at {l : List Att} {k : Nat} {a : Att} (h : l[k]? = some a) (hp : okFrom none l = okFrom (prev l k) (l.drop k)) (hb : (word a.name && Vl.right a.v && above (prev l k) a.name) = false) : right l = false := by
  unfold right
  rw [hp, ok_step h, hb]; simp
theorem good_at {l : List Att} {k : Nat} {a : Att} (h : l[k]? = some a) (hp : okFrom none l = okFrom (prev l k) (l.drop k)) (hb : (word a.name && Vl.right a.v && above (prev l k) a.name) = true) : okFrom none l = okFrom (prev l (k + 1)) (l.drop (k + 1)) := by
  rw [hp, ok_step h, hb]; simp
theorem good_end {l : List Att} {k : Nat} (h : ¬ k < l.length) (hp : okFrom none l = okFrom (prev l k) (l.drop k)) : right l = decide (l.length ≤ 5) := by
  unfold right
  rw [hp, List.drop_eq_nil_of_le (by omega)]; simp [okFrom]
theorem prev_at {l : List Att} {k : Nat} {a : Att} (h : l[k]? = some a) : prev l (k + 1) = some a.name := by simp [prev, h]
end At

set_option maxHeartbeats 2000000 in
theorem aright_any {A : Option Addr} {n c : Nat} {l : List Att} {w : World} (h : Ats w A n l) :
    Calls Tryz.prog 67 #[.slice A n c] w fun e w' => e = .returned (.bool (At.right l)) ∧ Below w.heap.size w w' := by
  obtain rfl := h.len.symm
  have hn := h.few
  have HA := Lib.hid h
  have hst := store_float
  clear h
  by_cases h5 : 5 < l.length
  · have HR : Hid (At.right l = false) := by
      have : At.right l = false := by unfold At.right; rw [decide_eq_false (by omega)]; rfl
      exact this
    go_enter Tryz.func67, Tryz.ntmps67
    go_wp2_with fail
    go_ret
    exact ⟨by rw [HR.out]; rfl, Below.refl _ _⟩
  go_enter Tryz.func67, Tryz.ntmps67
  go_wp2_with fail
  go_loopw [10] (fun ii wr => ∃ k : Nat, k ≤ l.length ∧ ii = .int .i64 (k : Int) ∧ At.okFrom none l = At.okFrom (At.prev l k) (l.drop k) ∧ Below w.heap.size w wr) (fun ii _ => l.length - (intOf ii).toNat)
  case atStart => exact ⟨0, by omega, rfl, rfl, Below.refl _ _⟩
  case round =>
    obtain ⟨k, hk, rfl, hl, hB⟩ := hrel
    have HL := Lib.hid hl
    have HB := Lib.hid hB
    clear hl hB
    by_cases hlt : k < l.length
    · obtain ⟨g, o, rfl, hg⟩ := HA.out.at (by omega)
      obtain ⟨a, ha⟩ : ∃ a, l[k]? = some a := ⟨_, List.getElem?_eq_getElem hlt⟩
      have HG := Lib.hid ha
      have hz := HA.out.names a (List.mem_of_getElem? ha)
      have HS := Lib.hid ((hg k a ha).later HB.out)
      have HGG := Lib.hid hg
      obtain ⟨an, ak, am, ax, az, ab⟩ := a
      obtain ⟨c0, c1, c2, c3, c4, c5⟩ := HS.out
      clear hg ha
      cases hw : At.word an
      · have HM := Lib.hid (At.bad_at HG.out HL.out (by rw [hw]; rfl))
        go_wp2_with (go_at_call 100; refine (word_any _ hz _).mono ?_; rintro e w' ⟨rfl, rfl⟩)
        go_ret
        exact ⟨by rw [HM.out]; rfl, below_then HB.out (one_new _ _)⟩
      · go_wp2_with (first | (go_at_call 100; refine (word_any _ hz _).mono ?_; rintro e w' ⟨rfl, rfl⟩) | fail)
        refine (vright_any _ _ _ _ _ _).mono ?_
        rintro e w2 ⟨rfl, hb⟩
        have HB2 := Lib.hid (below_then (below_then HB.out (one_new _ _)) hb)
        have d0 : w2.cell? ⟨wr.heap.size, 0, none⟩ = some (.string an) := (hb.cell (by simp)).trans (by simp)
        have hlr := HB.out.size
        clear c0 c1 c2 c3 c4 c5 hb HS
        cases hr : Vl.right ⟨ak, am, ax, az, ab⟩
        · have HM := Lib.hid (At.bad_at HG.out HL.out (by rw [hw, hr]; rfl))
          go_wp2_with fail
          go_ret
          exact ⟨by rw [HM.out]; rfl, HB2.out⟩
        · by_cases hk0 : k = 0
          · subst hk0
            have HM := Lib.hid (At.good_at HG.out HL.out (by rw [hw, hr]; rfl))
            go_wp2_with fail
            go_quiet (fail)
            go_wp2_with fail
            exact ⟨⟨1, by omega, rfl, HM.out, below_drewN HB2.out _⟩, by simp [intOf]; omega⟩
          · obtain ⟨q, rfl⟩ : ∃ q, k = q + 1 := ⟨k - 1, by omega⟩
            obtain ⟨b, hb⟩ : ∃ b, l[q]? = some b := ⟨_, List.getElem?_eq_getElem (by omega)⟩
            have d1 := ((HGG.out q b hb).later HB2.out).h0
            have hp := At.prev_at hb
            generalize b.name = bn at d1 hp
            have u1 : IntKind.i64.wrap ((q : Int) + 1 - 1) = q := by rw [show (q : Int) + 1 - 1 = q by omega]; exact IntWalk.i64_in _ (by omega)
            have hle := At.less_or an.toList bn.toList
            cases hless : Op.bytesLess bn.toList an.toList
            · have HM := Lib.hid (At.bad_at HG.out HL.out (by rw [hw, hr, hp]; simp [At.above, hless]))
              rw [hless] at hle
              clear hp hb hless
              go_wp2_with fail
              go_quiet (fail)
              go_wp2_with fail
              go_ret
              exact ⟨by rw [HM.out]; rfl, below_drewN HB2.out _⟩
            · have HM := Lib.hid (At.good_at HG.out HL.out (by rw [hw, hr, hp]; simp [At.above, hless]))
              rw [hless] at hle
              clear hp hb hless
              go_wp2_with fail
              go_quiet (fail)
              go_wp2_with fail
              exact ⟨⟨q + 1 + 1, by omega, rfl, HM.out, below_drewN HB2.out _⟩, by simp [intOf]; omega⟩
    · have HM := Lib.hid (At.good_end hlt HL.out)
      go_wp2_with fail
      go_ret
      exact ⟨by rw [HM.out, decide_eq_true (show l.length ≤ 5 by omega)]; rfl, HB.out⟩
set_option maxHeartbeats 4000000 in
theorem rright_any {A : Option Addr} {n c : Nat} {l : List Att} {w : World} (h : Ats w A n l) :
    Calls Tryz.prog 71 #[.slice A n c] w fun e w' => e = .returned (.bool (At.right l)) ∧ Below w.heap.size w w' := by
  obtain rfl := h.len.symm
  have hn := h.few
  have HA := Lib.hid h
  clear h
  go_enter Tryz.func71, Tryz.ntmps71
  go_wp2_with fail
  go_loopw [3] (fun ii wr => ∃ k : Nat, k ≤ l.length ∧ ii = .int .i64 (k : Int) ∧ At.okFrom none l = At.okFrom (At.prev l k) (l.drop k) ∧ Below w.heap.size w wr) (fun ii _ => l.length - (intOf ii).toNat)
  case atStart => exact ⟨0, by omega, rfl, rfl, Below.refl _ _⟩
  case round =>
    obtain ⟨k, hk, rfl, hl, hB⟩ := hrel
    have HL := Lib.hid hl
    have HB := Lib.hid hB
    clear hl hB
    by_cases hlt : k < l.length
    · obtain ⟨g, o, rfl, hg⟩ := HA.out.at (by omega)
      obtain ⟨a, ha⟩ : ∃ a, l[k]? = some a := ⟨_, List.getElem?_eq_getElem hlt⟩
      have HG := Lib.hid ha
      have hz := HA.out.names a (List.mem_of_getElem? ha)
      have hs := fun x : Later wr => ((hg k a ha).later HB.out).later x.below
      have HGG := Lib.hid hg
      obtain ⟨an, ak, am, ax, az, ab⟩ := a
      have c0 := fun x : Later wr => (hs x).h0
      have c1 := fun x : Later wr => (hs x).h1
      have c2 := fun x : Later wr => (hs x).h2
      have c3 := fun x : Later wr => (hs x).h3
      have c4 := fun x : Later wr => (hs x).h4
      have c5 := fun x : Later wr => (hs x).h5
      clear hg ha hs
      haveI := later_some wr
      cases hw : At.word an
      · have HM := Lib.hid (At.bad_at HG.out HL.out (by rw [hw]; rfl))
        go_wp2_with fail
        refine wp_region_later (W := wr) (by kernel_rfl) (by kernel_rfl) (Below.refl _ _) ?_
        repeat (go_big_quiet_step (first | (go_at_call 103; exact calls_later_same (rword_any _ hz _)) | (go_at_call 104; exact calls_later (rvright_any _ _ _ _ _ _))))
        refine wpQuiet_nil ?_
        rintro _ ⟨x, rfl⟩
        go_wp2_with fail
        go_ret
        exact ⟨by rw [HM.out]; rfl, below_then HB.out x.below⟩
      · cases hr : Vl.right ⟨ak, am, ax, az, ab⟩
        · have HM := Lib.hid (At.bad_at HG.out HL.out (by rw [hw, hr]; rfl))
          go_wp2_with fail
          refine wp_region_later (W := wr) (by kernel_rfl) (by kernel_rfl) (Below.refl _ _) ?_
          repeat (go_big_quiet_step (first | (go_at_call 103; exact calls_later_same (rword_any _ hz _)) | (go_at_call 104; exact calls_later (rvright_any _ _ _ _ _ _))))
          refine wpQuiet_nil ?_
          rintro _ ⟨x, rfl⟩
          go_wp2_with fail
          go_ret
          exact ⟨by rw [HM.out]; rfl, below_then HB.out x.below⟩
        · by_cases hk0 : k = 0
          · subst hk0
            simp only [Nat.zero_mul, Nat.add_zero] at c0 c1 c2 c3 c4 c5
            have HM := Lib.hid (At.good_at HG.out HL.out (by rw [hw, hr]; rfl))
            go_wp2_with fail
            refine wp_region_later (W := wr) (by kernel_rfl) (by kernel_rfl) (Below.refl _ _) ?_
            repeat (go_big_quiet_step (first | (go_at_call 103; exact calls_later_same (rword_any _ hz _)) | (go_at_call 104; exact calls_later (rvright_any _ _ _ _ _ _))))
            refine wpQuiet_nil ?_
            rintro _ ⟨x, rfl⟩
            go_wp2_with fail
            exact ⟨⟨1, by omega, rfl, HM.out, below_then HB.out x.below⟩, by simp [intOf]; omega⟩
          · obtain ⟨q, rfl⟩ : ∃ q, k = q + 1 := ⟨k - 1, by omega⟩
            obtain ⟨b, hb⟩ : ∃ b, l[q]? = some b := ⟨_, List.getElem?_eq_getElem (by omega)⟩
            have d1 := fun x : Later wr => (((HGG.out q b hb).later HB.out).later x.below).h0
            have hp := At.prev_at hb
            generalize b.name = bn at d1 hp
            have u1 : IntKind.i64.wrap ((q : Int) + 1 - 1) = q := by rw [show (q : Int) + 1 - 1 = q by omega]; exact IntWalk.i64_in _ (by omega)
            have hle := At.less_or an.toList bn.toList
            cases hless : Op.bytesLess bn.toList an.toList
            · have HM := Lib.hid (At.bad_at HG.out HL.out (by rw [hw, hr, hp]; simp [At.above, hless]))
              rw [hless] at hle
              clear hp hb
              go_wp2_with fail
              refine wp_region_later (W := wr) (by kernel_rfl) (by kernel_rfl) (Below.refl _ _) ?_
              repeat (go_big_quiet_step (first | (go_at_call 103; exact calls_later_same (rword_any _ hz _)) | (go_at_call 104; exact calls_later (rvright_any _ _ _ _ _ _))))
              refine wpQuiet_nil ?_
              rintro _ ⟨x, rfl⟩
              go_wp2_with fail
              go_ret
              exact ⟨by rw [HM.out]; rfl, below_then HB.out x.below⟩
            · have HM := Lib.hid (At.good_at HG.out HL.out (by rw [hw, hr, hp]; simp [At.above, hless]))
              rw [hless] at hle
              clear hp hb
              go_wp2_with fail
              refine wp_region_later (W := wr) (by kernel_rfl) (by kernel_rfl) (Below.refl _ _) ?_
              repeat (go_big_quiet_step (first | (go_at_call 103; exact calls_later_same (rword_any _ hz _)) | (go_at_call 104; exact calls_later (rvright_any _ _ _ _ _ _))))
              refine wpQuiet_nil ?_
              rintro _ ⟨x, rfl⟩
              go_wp2_with fail
              exact ⟨⟨q + 1 + 1, by omega, rfl, HM.out, below_then HB.out x.below⟩, by simp [intOf]; omega⟩
    · have HM := Lib.hid (At.good_end hlt HL.out)
      go_wp2_with fail
      go_ret
      exact ⟨by rw [HM.out]; simp; omega, HB.out⟩
end Go.Proofs.YtgenmebmdpnjhaaGreat

namespace Go.Proofs.YtgenmebmdpnjhaaGreat
open Go.RowKit

namespace At
def one (a b : Att) : Bool := (a.name.toList == b.name.toList) && Vl.same a.v b.v
def same : List Att → List Att → Bool
  | [], [] => true
  | a :: l, b :: m => one a b && same l m
  | _, _ => false
theorem same_len : ∀ {l m : List Att}, same l m = true → l.length = m.length
  | [], [], _ => rfl
  | a :: l, b :: m, h => by simp only [same, Bool.and_eq_true] at h; simp [same_len h.2]
  | [], _ :: _, h => by simp [same] at h
  | _ :: _, [], h => by simp [same] at h
theorem other_len {l m : List Att} (h : ¬ l.length = m.length) : same l m = false := by
  cases hs : same l m
  · rfl
  · exact absurd (same_len hs) h
theorem same_bad {l m : List Att} {k : Nat} {a b : Att} (h : l[k]? = some a) (g : m[k]? = some b) (hp : same l m = same (l.drop k) (m.drop k)) (hb : one a b = false) : same l m = false := by
  rw [hp, drop_at h, drop_at g, same, hb]; rfl
theorem same_good {l m : List Att} {k : Nat} {a b : Att} (h : l[k]? = some a) (g : m[k]? = some b) (hp : same l m = same (l.drop k) (m.drop k)) (hb : one a b = true) : same l m = same (l.drop (k + 1)) (m.drop (k + 1)) := by
  rw [hp, drop_at h, drop_at g, same, hb]; simp
theorem same_end {l m : List Att} {k : Nat} (h : ¬ k < l.length) (he : m.length = l.length) (hp : same l m = same (l.drop k) (m.drop k)) : same l m = true := by
  rw [hp, List.drop_eq_nil_of_le (by omega), List.drop_eq_nil_of_le (by omega), same]
end At

set_option maxHeartbeats 4000000 in
theorem asame_any {A B : Option Addr} {n c n' c' : Nat} {l m : List Att} {w : World} (h : Ats w A n l) (h' : Ats w B n' m) :
    Calls Tryz.prog 73 #[.slice A n c, .slice B n' c'] w fun e w' => e = .returned (.bool (At.same l m)) ∧ Below w.heap.size w w' := by
  obtain rfl := h.len.symm
  obtain rfl := h'.len.symm
  have hn := h.few
  have hn' := h'.few
  have HA := Lib.hid h
  have HA' := Lib.hid h'
  clear h h'
  by_cases hlen : l.length = m.length
  case neg =>
    have HM := Lib.hid (At.other_len hlen)
    have hlen' : ¬ (l.length : Int) = (m.length : Int) := by omega
    go_enter Tryz.func73, Tryz.ntmps73
    go_wp2_with fail
    go_ret
    exact ⟨by rw [HM.out]; rfl, Below.refl _ _⟩
  have hme : m.length = l.length := hlen.symm
  rw [hme] at HA' hn' ⊢
  clear hlen
  go_enter Tryz.func73, Tryz.ntmps73
  go_wp2_with fail
  go_loopw [13] (fun ii wr => ∃ k : Nat, k ≤ l.length ∧ ii = .int .i64 (k : Int) ∧ At.same l m = At.same (l.drop k) (m.drop k) ∧ Below w.heap.size w wr) (fun ii _ => l.length - (intOf ii).toNat)
  case atStart => exact ⟨0, by omega, rfl, rfl, Below.refl _ _⟩
  case round =>
    obtain ⟨k, hk, rfl, hl, hB⟩ := hrel
    have HL := Lib.hid hl
    have HB := Lib.hid hB
    clear hl hB
    by_cases hlt : k < l.length
    · obtain ⟨g, o, rfl, hg⟩ := HA.out.at (by omega)
      obtain ⟨g', o', rfl, hg'⟩ := HA'.out.at (by omega)
      obtain ⟨a, ha⟩ : ∃ a, l[k]? = some a := ⟨_, List.getElem?_eq_getElem hlt⟩
      obtain ⟨b, hb⟩ : ∃ b, m[k]? = some b := ⟨_, List.getElem?_eq_getElem (by omega)⟩
      have HG := Lib.hid ha
      have HG' := Lib.hid hb
      have hs := fun x : Later wr => ((hg k a ha).later HB.out).later x.below
      have hs' := fun x : Later wr => ((hg' k b hb).later HB.out).later x.below
      obtain ⟨an, ak, am, ax, az, ab⟩ := a
      obtain ⟨bn, bk, bm, bx, bz, bb⟩ := b
      have c0 := fun x : Later wr => (hs x).h0
      have c1 := fun x : Later wr => (hs x).h1
      have c2 := fun x : Later wr => (hs x).h2
      have c3 := fun x : Later wr => (hs x).h3
      have c4 := fun x : Later wr => (hs x).h4
      have c5 := fun x : Later wr => (hs x).h5
      have d0 := fun x : Later wr => (hs' x).h0
      have d1 := fun x : Later wr => (hs' x).h1
      have d2 := fun x : Later wr => (hs' x).h2
      have d3 := fun x : Later wr => (hs' x).h3
      have d4 := fun x : Later wr => (hs' x).h4
      have d5 := fun x : Later wr => (hs' x).h5
      clear hg ha hs hg' hs' hb
      haveI := later_some wr
      cases hw : (an.toList == bn.toList)
      · have HM := Lib.hid (At.same_bad HG.out HG'.out HL.out (by simp only [At.one]; rw [hw]; rfl))
        go_wp2_with fail
        refine wp_region_later (W := wr) (by kernel_rfl) (by kernel_rfl) (Below.refl _ _) ?_
        repeat (go_big_quiet_step (first | (go_at_call 105; exact calls_later (vsame_any _ _ _ _ _ _ _ _ _ _ _))))
        refine wpQuiet_nil ?_
        rintro _ ⟨x, rfl⟩
        go_wp2_with fail
        go_ret
        exact ⟨by rw [HM.out]; rfl, below_then HB.out x.below⟩
      · cases hr : Vl.same ⟨ak, am, ax, az, ab⟩ ⟨bk, bm, bx, bz, bb⟩
        · have HM := Lib.hid (At.same_bad HG.out HG'.out HL.out (by simp only [At.one]; rw [hw, hr]; rfl))
          go_wp2_with fail
          refine wp_region_later (W := wr) (by kernel_rfl) (by kernel_rfl) (Below.refl _ _) ?_
          repeat (go_big_quiet_step (first | (go_at_call 105; exact calls_later (vsame_any _ _ _ _ _ _ _ _ _ _ _))))
          refine wpQuiet_nil ?_
          rintro _ ⟨x, rfl⟩
          go_wp2_with fail
          go_ret
          exact ⟨by rw [HM.out]; rfl, below_then HB.out x.below⟩
        · have HM := Lib.hid (At.same_good HG.out HG'.out HL.out (by simp only [At.one]; rw [hw, hr]; rfl))
          go_wp2_with fail
          refine wp_region_later (W := wr) (by kernel_rfl) (by kernel_rfl) (Below.refl _ _) ?_
          repeat (go_big_quiet_step (first | (go_at_call 105; exact calls_later (vsame_any _ _ _ _ _ _ _ _ _ _ _))))
          refine wpQuiet_nil ?_
          rintro _ ⟨x, rfl⟩
          go_wp2_with fail
          exact ⟨⟨k + 1, by omega, rfl, HM.out, below_then HB.out x.below⟩, by simp [intOf]; omega⟩
    · have HM := Lib.hid (At.same_end hlt hme HL.out)
      go_wp2_with fail
      go_ret
      exact ⟨by rw [HM.out]; rfl, HB.out⟩

set_option maxHeartbeats 4000000 in
theorem rsame_any {A B : Option Addr} {n c n' c' : Nat} {l m : List Att} {w : World} (h : Ats w A n l) (h' : Ats w B n' m) :
    Calls Tryz.prog 76 #[.slice A n c, .slice B n' c'] w fun e w' => e = .returned (.bool (At.same l m)) ∧ Below w.heap.size w w' := by
  obtain rfl := h.len.symm
  obtain rfl := h'.len.symm
  have hn := h.few
  have hn' := h'.few
  have HA := Lib.hid h
  have HA' := Lib.hid h'
  clear h h'
  by_cases hlen : l.length = m.length
  case neg =>
    have HM := Lib.hid (At.other_len hlen)
    have hlen' : ¬ (l.length : Int) = (m.length : Int) := by omega
    go_enter Tryz.func76, Tryz.ntmps76
    go_wp2_with fail
    go_ret
    exact ⟨by rw [HM.out]; rfl, Below.refl _ _⟩
  have hme : m.length = l.length := hlen.symm
  rw [hme] at HA' hn' ⊢
  clear hlen
  go_enter Tryz.func76, Tryz.ntmps76
  go_wp2_with fail
  go_loopw [5] (fun ii wr => ∃ k : Nat, k ≤ l.length ∧ ii = .int .i64 (k : Int) ∧ At.same l m = At.same (l.drop k) (m.drop k) ∧ Below w.heap.size w wr) (fun ii _ => l.length - (intOf ii).toNat)
  case atStart => exact ⟨0, by omega, rfl, rfl, Below.refl _ _⟩
  case round =>
    obtain ⟨k, hk, rfl, hl, hB⟩ := hrel
    have HL := Lib.hid hl
    have HB := Lib.hid hB
    clear hl hB
    by_cases hlt : k < l.length
    · obtain ⟨g, o, rfl, hg⟩ := HA.out.at (by omega)
      obtain ⟨g', o', rfl, hg'⟩ := HA'.out.at (by omega)
      obtain ⟨a, ha⟩ : ∃ a, l[k]? = some a := ⟨_, List.getElem?_eq_getElem hlt⟩
      obtain ⟨b, hb⟩ : ∃ b, m[k]? = some b := ⟨_, List.getElem?_eq_getElem (by omega)⟩
      have HG := Lib.hid ha
      have HG' := Lib.hid hb
      have hs := fun x : Later wr => ((hg k a ha).later HB.out).later x.below
      have hs' := fun x : Later wr => ((hg' k b hb).later HB.out).later x.below
      obtain ⟨an, ak, am, ax, az, ab⟩ := a
      obtain ⟨bn, bk, bm, bx, bz, bb⟩ := b
      have c0 := fun x : Later wr => (hs x).h0
      have c1 := fun x : Later wr => (hs x).h1
      have c2 := fun x : Later wr => (hs x).h2
      have c3 := fun x : Later wr => (hs x).h3
      have c4 := fun x : Later wr => (hs x).h4
      have c5 := fun x : Later wr => (hs x).h5
      have d0 := fun x : Later wr => (hs' x).h0
      have d1 := fun x : Later wr => (hs' x).h1
      have d2 := fun x : Later wr => (hs' x).h2
      have d3 := fun x : Later wr => (hs' x).h3
      have d4 := fun x : Later wr => (hs' x).h4
      have d5 := fun x : Later wr => (hs' x).h5
      clear hg ha hs hg' hs' hb
      haveI := later_some wr
      cases hw : (an.toList == bn.toList)
      · have HM := Lib.hid (At.same_bad HG.out HG'.out HL.out (by simp only [At.one]; rw [hw]; rfl))
        go_wp2_with fail
        refine wp_region_later (W := wr) (by kernel_rfl) (by kernel_rfl) (Below.refl _ _) ?_
        repeat (go_big_quiet_step (first | (go_at_call 108; exact calls_later (rvsame_any _ _ _ _ _ _ _ _ _ _ _))))
        refine wpQuiet_nil ?_
        rintro _ ⟨x, rfl⟩
        go_wp2_with fail
        go_ret
        exact ⟨by rw [HM.out]; rfl, below_then HB.out x.below⟩
      · cases hr : Vl.same ⟨ak, am, ax, az, ab⟩ ⟨bk, bm, bx, bz, bb⟩
        · have HM := Lib.hid (At.same_bad HG.out HG'.out HL.out (by simp only [At.one]; rw [hw, hr]; rfl))
          go_wp2_with fail
          refine wp_region_later (W := wr) (by kernel_rfl) (by kernel_rfl) (Below.refl _ _) ?_
          repeat (go_big_quiet_step (first | (go_at_call 108; exact calls_later (rvsame_any _ _ _ _ _ _ _ _ _ _ _))))
          refine wpQuiet_nil ?_
          rintro _ ⟨x, rfl⟩
          go_wp2_with fail
          go_ret
          exact ⟨by rw [HM.out]; rfl, below_then HB.out x.below⟩
        · have HM := Lib.hid (At.same_good HG.out HG'.out HL.out (by simp only [At.one]; rw [hw, hr]; rfl))
          go_wp2_with fail
          refine wp_region_later (W := wr) (by kernel_rfl) (by kernel_rfl) (Below.refl _ _) ?_
          repeat (go_big_quiet_step (first | (go_at_call 108; exact calls_later (rvsame_any _ _ _ _ _ _ _ _ _ _ _))))
          refine wpQuiet_nil ?_
          rintro _ ⟨x, rfl⟩
          go_wp2_with fail
          exact ⟨⟨k + 1, by omega, rfl, HM.out, below_then HB.out x.below⟩, by simp [intOf]; omega⟩
    · have HM := Lib.hid (At.same_end hlt hme HL.out)
      go_wp2_with fail
      go_ret
      exact ⟨by rw [HM.out]; rfl, HB.out⟩

theorem att_info : (Tryz.prog.info? 66).map (fun i => (i.zero, i.size, i.bytes)) = some (some (av ⟨⟨#[]⟩, At.z0⟩), 6, 64) := by kernel_rfl
abbrev fresh (w : World) (n : Nat) : World := w.alloc (.cells (madeCells (av ⟨⟨#[]⟩, At.z0⟩).cells (n * 6)) 66)
theorem make_att (w : World) (n : Nat) (hn : n ≤ 1000000) : (Instr.makeSlice 27 (.int .i64 (n : Int)) (.int .i64 (n : Int))).run Tryz.prog w = .ok (.slice (some ⟨w.heap.size, 0, none⟩) n n) (fresh w n) := by
  obtain ⟨i, hi, hz, h1, h2⟩ := info_at att_info
  have := run_make (P := Tryz.prog) w 27 66 i _ Tryz.underlying27 hi hz .i64 .i64 n n (by omega) (Int.le_refl _) (by rw [h2]; omega) (by omega)
  rw [h1] at this
  exact this
theorem copy_att {A : Option Addr} {n c : Nat} {l : List Att} (w : World) (h : Ats w A n l) (ty : TypeId) : (Builtin.copy_ #[27, 27] ty #[.slice (some ⟨w.heap.size, 0, none⟩) n n, .slice A n c]).run Tryz.prog (fresh w n) = .ok (goInt n) ((fresh w n).setRow w.heap.size (flat l).toArray) := by
  have hm : madeCells (av ⟨⟨#[]⟩, At.z0⟩).cells (n * 6) = (madeCells (av ⟨⟨#[]⟩, At.z0⟩).cells (n * 6)).toList.toArray := by simp
  refine run_copyw (fresh w n) _ _ ty 66 n n c w.heap.size A (madeCells (av ⟨⟨#[]⟩, At.z0⟩).cells (n * 6)).toList (flat l) Tryz.underlying27 (by kernel_rfl) ?_ ?_ (h.row.later (one_new _ _)) (flat_one l)
  · rw [← hm]; exact heap_alloc_new _ _
  · simp [madeCells]
/-- What Copy tells: the same, in a block of its own. -/
def CopyPost (w : World) (n : Nat) (l : List Att) (e : Ending) (w' : World) : Prop :=
  e = .returned (.slice (some ⟨w.heap.size, 0, none⟩) n n) ∧ w'.heap[w.heap.size]? = some (.cells (flat l).toArray 66 (0, 0)) ∧ Below w.heap.size w w'
end Go.Proofs.YtgenmebmdpnjhaaGreat
