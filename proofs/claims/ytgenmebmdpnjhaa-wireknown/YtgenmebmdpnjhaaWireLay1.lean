
/- What wire.Lay is made of: numbers, texts, values, Events behind bytes: the contracts. -/
import Derived.Test.YtgenmebmdpnjhaaWireW
import Derived.Test.YtgenmebmdpnjhaaPackMake
import Derived.Test.YtgenmebmdpnjhaaPackFacts
import Derived.Test.YtgenmebmdpnjhaaQuiet
namespace Go.Proofs.Ytgenmebmdpnjhaa
open Go.RowKit
set_option linter.unusedVariables false
set_option maxRecDepth 100000

/-- A row of bytes that the call made. -/
abbrev OwnB (B : Nat) (w : World) (v : Value) (l : List Nat) : Prop := OwnW 1 B 5 w v l.length (l.map bcell)
/-- Of the blocks from B on only such as hold bytes may have turned. -/
structure Keep (B : Nat) (w w' : World) : Prop where
  below : Below B w w'
  obj : ∀ (g : Nat) (cs : Array Value) (t : TypeId) (fr : Nat × Nat), w.heap[g]? = some (.cells cs t fr) → t ≠ 5 → w'.heap[g]? = some (.cells cs t fr)
theorem Keep.refl (B : Nat) (w : World) : Keep B w w := ⟨Below.refl _ _, fun _ _ _ _ h _ => h⟩
theorem Keep.then {B : Nat} {a b c : World} (h : Keep B a b) (k : Keep B b c) : Keep B a c := ⟨h.below.trans k.below, fun g cs t fr hg ht => k.obj g cs t fr (h.obj g cs t fr hg ht) ht⟩
theorem Keep.later {B : Nat} {w w' : World} (hB : B ≤ w.heap.size) (k : Below w.heap.size w w') : Keep B w w' := ⟨below_sub k hB, fun g cs t fr hg _ => below_row k hg⟩
theorem Keep.own {B : Nat} {w w' : World} {v : Value} {l : List Nat} (h : OwnB B w v l) (k : Kept (fun i => v.ownBlock = some i) w w') : Keep B w w' :=
  ⟨k.below h.2 (fun i hi e => by have := ownw_base h i e; omega), fun g cs t fr hg ht => k.row hg (fun e => ownw_not h hg ht.symm g e rfl)⟩
theorem rd_rs {w : World} {A : Option Addr} {n c : Nat} {l : List Nat} (h : Rd w A n c l) : Rs 1 w A n (l.map bcell) := by
  refine ⟨by rw [List.length_map, h.1, Nat.mul_one], ?_⟩
  rcases h.2 with ⟨-, h0, -⟩ | ⟨rb, ro, e, hc⟩
  · left
    have := h.1
    rw [List.eq_nil_of_length_eq_zero (l := l) (by omega)]
    rfl
  · refine .inr ⟨rb, ro, e, fun j u hj => ?_⟩
    rw [List.getElem?_map] at hj
    obtain ⟨b, hb, rfl⟩ := Option.map_eq_some_iff.1 hj
    exact hc j b hb
theorem rd_none {w : World} {A : Option Addr} {n c : Nat} {l : List Nat} (h : Rd w A n c l) : A = none → n = 0 ∧ c = 0 := by
  rintro rfl
  rcases h.2 with ⟨-, h0, h1⟩ | ⟨rb, ro, e, -⟩
  · exact ⟨h0, h1⟩
  · cases e
theorem bcells_one (l : List Nat) : ∀ u ∈ l.map bcell, u.oneCell' = true := by
  intro u hu
  obtain ⟨b, -, rfl⟩ := List.mem_map.1 hu
  rfl
theorem ownb_add {B : Nat} {w : World} {v : Value} {l m : List Nat} {n : Nat} (h : OwnW 1 B 5 w v (l.length + n) (l.map bcell ++ m.map bcell)) (hn : m.length = n) : OwnB B w v (l ++ m) := by
  unfold OwnB
  rw [List.length_append, hn, List.map_append]
  exact h
theorem ownb_nil (B : Nat) (w : World) (hB : B ≤ w.heap.size) : OwnB B w (.slice none 0 0) [] := OwnW.nil _ _ _ hB
theorem natw_len (n : Int) : (natw n).length ≤ 9 := by
  unfold natw
  split
  · exact natb_len9 (by omega)
  · simp
theorem rd_nil (w : World) : Rd w none 0 0 [] := ⟨rfl, .inl ⟨rfl, rfl, rfl⟩⟩
/-- How the functions that lay end. -/
def AddPost (B : Nat) (l : List Nat) (w : World) (e : Ending) (w' : World) : Prop := ∃ v', e = .returned v' ∧ OwnB B w' v' l ∧ Keep B w w'
/-- A row of numbers, just made. -/
abbrev ibox (ns : List Int) : Obj := .cells (ns.map (Value.int .i64)).toArray 3
theorem int_cell {w : World} {g : Nat} {ns : List Int} (h : w.heap[g]? = some (ibox ns)) {k : Nat} {n : Int} (hk : ns[k]? = some n) : w.cell? ⟨g, k, none⟩ = some (.int .i64 n) := by
  rw [cell_of_row _ _ k _ _ _ h]
  simp [hk]

set_option maxHeartbeats 8000000 in
theorem addnats_any {B g : Nat} {v : Value} {l : List Nat} {ns : List Int} {w : World} (h : OwnB B w v l) (hg : w.heap[g]? = some (ibox ns)) (hl : l.length + 9 * ns.length ≤ 900000) :
    Calls Try.prog 12 #[v, .slice (some ⟨g, 0, none⟩) ns.length ns.length] w (AddPost B (l ++ ns.flatMap natw) w) := by
  have HO := Lib.hid h
  have HG := Lib.hid hg
  have hlen : ns.length ≤ 100000 := by omega
  clear h hg
  go_enter Try.func12, Try.ntmps12
  go_wp2_with fail
  go_loopw [0, 9] (fun vv ii wr => ∃ k : Nat, k ≤ ns.length ∧ ii = .int .i64 (k : Int) ∧ OwnB B wr vv (l ++ (ns.take k).flatMap natw) ∧ Keep B w wr ∧ (l ++ (ns.take k).flatMap natw).length ≤ l.length + 9 * k) (fun _ ii _ => ns.length - (intOf ii).toNat)
  case atStart => exact ⟨0, by omega, rfl, by simpa using HO.out, Keep.refl _ _, by simp⟩
  case round =>
    obtain ⟨k, hk, rfl, hO, hK, hL⟩ := hrel
    have HO2 := Lib.hid hO
    have HK := Lib.hid hK
    have HL := Lib.hid hL
    clear hO hK hL
    by_cases hlt : k < ns.length
    · obtain ⟨n, hn⟩ : ∃ n, ns[k]? = some n := ⟨_, List.getElem?_eq_getElem hlt⟩
      have hc := int_cell (HK.out.obj _ _ _ _ HG.out (by decide)) hn
      have HN : Hid ((ns.take (k + 1)).flatMap natw = (ns.take k).flatMap natw ++ natw n) := Lib.hid (by rw [List.take_add_one, hn, List.flatMap_append]; simp)
      have hnl := natw_len n
      clear hn
      go_wp2_with fail
      refine (pnat_any n (rd_nil _) (by omega)).mono ?_
      rintro e w2 ⟨v2, rfl, hL2⟩
      obtain ⟨A2, c2, rfl, hR2⟩ := hL2.reads
      rw [List.nil_append] at hR2
      have HR2 := Lib.hid hR2
      have HO3 := Lib.hid (HO2.out.later hL2.below)
      have HK3 := Lib.hid (HK.out.then (Keep.later HO2.out.2 hL2.below))
      clear hL2 hR2 HO2 HK hc
      rw [List.nil_append]
      have hLL := HL.out
      generalize h1 : l ++ (ns.take k).flatMap natw = l1 at HO3 HL hLL ⊢
      have H1 := Lib.hid h1
      clear h1
      go_wp2_with (first | (at_builtin; refine wpList_ownw (k := 1) rfl _ _ 37 rfl Try.underlying37 info_byte rfl (by decide) B _ l1.length (l1.map bcell) rfl HO3.out A2 (natw n).length c2 rfl (rd_none HR2.out) ((natw n).map bcell) (rd_rs HR2.out) (bcells_one _) (by omega) (by decide) ?_; intro v4 w4 hO4 hK4; have HO4 := Lib.hid (ownb_add hO4 rfl); have HK4 := Lib.hid (HK3.out.then (Keep.own HO3.out hK4)); clear hO4 hK4))
      exact ⟨⟨k + 1, by omega, rfl, by rw [HN.out, ← List.append_assoc, H1.out]; exact HO4.out, HK4.out, by rw [HN.out, ← List.append_assoc, H1.out, List.length_append]; omega⟩, by simp [intOf]; omega⟩
    · obtain rfl : k = ns.length := by omega
      have hO := HO2.out
      rw [List.take_length] at hO
      have HO3 := Lib.hid hO
      clear hO HO2
      go_wp2_with fail
      go_ret
      exact ⟨_, rfl, HO3.out, HK.out⟩

/-- The bytes of a text, of a bool, of a Value, an Attr, a Stamp, an Event. -/
def textb (s : ByteArray) : List Nat := natb s.size ++ bytesOf s
def boolb (b : Bool) : List Nat := natw (if b then 1 else 0)
def vkindb (v : Val) : List Nat := if v.k = 1 then eightb (wordOf v.n) else if v.k = 2 then eightb (Fl.bits v.x) else if v.k = 3 then textb v.s else if v.k = 4 then boolb v.b else []
def valueb (v : Val) : List Nat := natw v.k ++ vkindb v
def attb (a : Att) : List Nat := textb a.name ++ valueb a.v
def stb (s : St) : List Nat := natw s.atom ++ natw s.n
def eventb (e : Ev) : List Nat := [e.c, e.b, e.s, e.e, e.a].flatMap natw ++ (natw e.l.length ++ (e.l.flatMap attb ++ (natw e.t.length ++ e.t.flatMap stb)))

set_option maxHeartbeats 8000000 in
theorem addtext_any {B : Nat} {v : Value} {l : List Nat} {s : ByteArray} {w : World} (h : OwnB B w v l) (hs : s.size ≤ 100) (hl : l.length ≤ 800000) :
    Calls Try.prog 39 #[v, .string s] w (AddPost B (l ++ textb s) w) := by
  have HO := Lib.hid h
  clear h
  go_enter Try.func39, Try.ntmps39
  go_wp2_with fail
  refine (ptext_any s (by omega) (rd_nil _) (by omega)).mono ?_
  rintro e w2 ⟨v2, rfl, hL2⟩
  obtain ⟨A2, c2, rfl, hR2⟩ := hL2.reads
  rw [List.nil_append] at hR2
  have HT : Hid ((natb s.size ++ bytesOf s).length ≤ 200) := Lib.hid (by
    rw [List.length_append, bytesOf_len]
    have := natb_len9 (m := s.size) (by omega)
    omega)
  have HR2 : Hid (Rd w2 A2 (textb s).length c2 (textb s)) := hR2
  have HO3 := Lib.hid (HO.out.later hL2.below)
  have HK3 := Lib.hid (Keep.later HO.out.2 hL2.below)
  have hT : (textb s).length ≤ 200 := HT.out
  clear hL2 hR2 HO HT
  rw [List.nil_append, show natb s.size ++ bytesOf s = textb s from rfl]
  go_wp2_with (first | (at_builtin; refine wpList_ownw (k := 1) rfl _ _ 37 rfl Try.underlying37 info_byte rfl (by decide) B _ l.length (l.map bcell) rfl HO3.out A2 (textb s).length c2 rfl (rd_none HR2.out) ((textb s).map bcell) (rd_rs HR2.out) (bcells_one _) (by omega) (by decide) ?_; intro v4 w4 hO4 hK4; have HO4 := Lib.hid (ownb_add hO4 rfl); have HK4 := Lib.hid (HK3.out.then (Keep.own HO3.out hK4)); clear hO4 hK4))
  go_ret
  exact ⟨_, rfl, HO4.out, HK4.out⟩

theorem natw_one (n : Int) : [n].flatMap natw = natw n := by simp
/-- addNats of a row just made. -/
theorem addnats_new {B : Nat} {v : Value} {l : List Nat} {w : World} (ns : List Int) (h : OwnB B w v l) (hl : l.length + 9 * ns.length ≤ 900000) (n : Nat) (hn : ns.length = n) (cs : Array Value) (hcs : cs = (ns.map (Value.int .i64)).toArray) :
    Calls Try.prog 12 #[v, .slice (some ⟨w.heap.size, 0, none⟩) n n] (w.alloc (.cells cs 3)) (AddPost B (l ++ ns.flatMap natw) w) := by
  subst hn
  subst hcs
  refine (addnats_any (ns := ns) (h.later (one_new _ _)) (heap_alloc_new _ _) hl).mono ?_
  rintro e w' ⟨v', rfl, hO, hK⟩
  exact ⟨v', rfl, hO, (Keep.later h.2 (one_new _ _)).then hK⟩

set_option maxHeartbeats 8000000 in
theorem addbool_any {B : Nat} {v : Value} {l : List Nat} {b : Bool} {w : World} (h : OwnB B w v l) (hl : l.length ≤ 800000) :
    Calls Try.prog 38 #[v, .bool b] w (AddPost B (l ++ boolb b) w) := by
  have HO := Lib.hid h
  clear h
  cases b
  · go_enter Try.func38, Try.ntmps38
    go_wp2_with fail
    refine (addnats_new [0] HO.out (by show l.length + 9 * 1 ≤ 900000; omega) 1 rfl _ rfl).mono ?_
    rintro e w' ⟨v', rfl, hO, hK⟩
    rw [natw_one] at hO
    have HH := Lib.hid (And.intro hO hK)
    clear hO hK
    go_wp2_with fail
    go_ret
    exact ⟨_, rfl, HH.out.1, HH.out.2⟩
  · go_enter Try.func38, Try.ntmps38
    go_wp2_with fail
    refine (addnats_new [1] HO.out (by show l.length + 9 * 1 ≤ 900000; omega) 1 rfl _ rfl).mono ?_
    rintro e w' ⟨v', rfl, hO, hK⟩
    rw [natw_one] at hO
    have HH := Lib.hid (And.intro hO hK)
    clear hO hK
    go_wp2_with fail
    go_ret
    exact ⟨_, rfl, HH.out.1, HH.out.2⟩

/-- What is small enough of a Value to be laid. -/
structure Lays (v : Val) : Prop where
  x : v.x < 2 ^ 64
  s : v.s.size ≤ 100

set_option maxHeartbeats 16000000 in
theorem addvalue_any {B : Nat} {v : Value} {l : List Nat} {a : Val} {w : World} (h : OwnB B w v l) (ha : Lays a) (hl : l.length ≤ 700000) :
    Calls Try.prog 40 #[v, vlv a] w (AddPost B (l ++ valueb a) w) := by
  obtain ⟨k, n, x, s, b⟩ := a
  have hn := one_new w (.cells #[.int .i64 k, .int .i64 n, .float .f64 x, .string s, .bool b] 41)
  have HR := Lib.hid (heap_alloc_new w (.cells #[.int .i64 k, .int .i64 n, .float .f64 x, .string s, .bool b] 41))
  have HO := Lib.hid (h.later hn)
  have HK0 := Lib.hid (Keep.later h.2 hn)
  have hx := ha.x
  have hs := ha.s
  dsimp only at hx hs
  clear h hn ha
  have hst := store_float
  go_enter Try.func40, Try.ntmps40
  go_upto_region 1 with fail
  generalize w.alloc _ = w1 at HR HO HK0 ⊢
  generalize w.heap.size = g at HR ⊢
  obtain ⟨c0, c1, c2, c3, c4, -⟩ := five HR.out
  go_wp2_with fail
  refine (addnats_new [k] HO.out (by show l.length + 9 * 1 ≤ 900000; omega) 1 rfl _ rfl).mono ?_
  rintro e w2 ⟨v2, rfl, hO, hK⟩
  rw [natw_one] at hO
  have HO2 := Lib.hid hO
  have HR2 := Lib.hid (hK.obj _ _ _ _ HR.out (by decide))
  have HK2 := Lib.hid (HK0.out.then hK)
  have hkl := natw_len k
  have hl2 : (l ++ natw k).length ≤ 700009 := by rw [List.length_append]; omega
  clear hO hK HR HO HK0 c0 c1 c2 c3 c4
  have HV : Hid (l ++ valueb ⟨k, n, x, s, b⟩ = (l ++ natw k) ++ vkindb ⟨k, n, x, s, b⟩) := Lib.hid (by unfold valueb; rw [List.append_assoc])
  generalize hq2 : l ++ natw k = l2 at HO2 hl2
  have HL2 := Lib.hid hq2
  clear hq2
  obtain ⟨c0, c1, c2, c3, c4, -⟩ := five HR2.out
  by_cases h1 : k = 1
  · subst h1
    have HW : Hid (vkindb ⟨1, n, x, s, b⟩ = eightb (wordOf n)) := Lib.hid rfl
    go_wp2_with fail
    refine (pint_any n (rd_nil _) (by omega)).mono ?_
    rintro e w3 ⟨v3, rfl, hL3⟩
    obtain ⟨A3, c3', rfl, hR3⟩ := hL3.reads
    rw [List.nil_append] at hR3
    have HR3 := Lib.hid hR3
    have HO3 := Lib.hid (HO2.out.later hL3.below)
    have HK3 := Lib.hid (HK2.out.then (Keep.later HO2.out.2 hL3.below))
    clear hL3 hR3 HO2 HK2 HR2 c0 c1 c2 c3 c4
    rw [List.nil_append]
    go_wp2_with (first | (at_builtin; refine wpList_ownw (k := 1) rfl _ _ 37 rfl Try.underlying37 info_byte rfl (by decide) B _ l2.length (l2.map bcell) rfl HO3.out A3 8 c3' rfl (rd_none HR3.out) ((eightb (wordOf n)).map bcell) (rd_rs HR3.out) (bcells_one _) (by omega) (by decide) ?_; intro v4 w4 hO4 hK4; have HO4 := Lib.hid (ownb_add hO4 rfl); have HK4 := Lib.hid (HK3.out.then (Keep.own HO3.out hK4)); clear hO4 hK4))
    go_ret
    exact ⟨_, rfl, by rw [HV.out, HL2.out, HW.out]; exact HO4.out, HK4.out⟩
  by_cases h2 : k = 2
  · subst h2
    have HW : Hid (vkindb ⟨2, n, x, s, b⟩ = eightb (Fl.bits x)) := Lib.hid rfl
    go_wp2_with fail
    refine (pfloat_any x hx (rd_nil _) (by omega)).mono ?_
    rintro e w3 ⟨v3, rfl, hL3⟩
    obtain ⟨A3, c3', rfl, hR3⟩ := hL3.reads
    rw [List.nil_append] at hR3
    have HR3 := Lib.hid hR3
    have HO3 := Lib.hid (HO2.out.later hL3.below)
    have HK3 := Lib.hid (HK2.out.then (Keep.later HO2.out.2 hL3.below))
    clear hL3 hR3 HO2 HK2 HR2 c0 c1 c2 c3 c4
    rw [List.nil_append]
    go_wp2_with (first | (at_builtin; refine wpList_ownw (k := 1) rfl _ _ 37 rfl Try.underlying37 info_byte rfl (by decide) B _ l2.length (l2.map bcell) rfl HO3.out A3 8 c3' rfl (rd_none HR3.out) ((eightb (Fl.bits x)).map bcell) (rd_rs HR3.out) (bcells_one _) (by omega) (by decide) ?_; intro v4 w4 hO4 hK4; have HO4 := Lib.hid (ownb_add hO4 rfl); have HK4 := Lib.hid (HK3.out.then (Keep.own HO3.out hK4)); clear hO4 hK4))
    go_ret
    exact ⟨_, rfl, by rw [HV.out, HL2.out, HW.out]; exact HO4.out, HK4.out⟩
  by_cases h3 : k = 3
  · subst h3
    have HW : Hid (vkindb ⟨3, n, x, s, b⟩ = textb s) := Lib.hid rfl
    go_wp2_with fail
    refine (addtext_any HO2.out hs (by omega)).mono ?_
    rintro e w3 ⟨v3, rfl, hO, hK⟩
    have HH := Lib.hid (And.intro hO (HK2.out.then hK))
    clear hO hK c0 c1 c2 c3 c4
    go_wp2_with fail
    go_ret
    exact ⟨_, rfl, by rw [HV.out, HL2.out, HW.out]; exact HH.out.1, HH.out.2⟩
  by_cases h4 : k = 4
  · subst h4
    have HW : Hid (vkindb ⟨4, n, x, s, b⟩ = boolb b) := Lib.hid rfl
    go_wp2_with fail
    refine (addbool_any HO2.out (by omega)).mono ?_
    rintro e w3 ⟨v3, rfl, hO, hK⟩
    have HH := Lib.hid (And.intro hO (HK2.out.then hK))
    clear hO hK c0 c1 c2 c3 c4
    go_wp2_with fail
    go_ret
    exact ⟨_, rfl, by rw [HV.out, HL2.out, HW.out]; exact HH.out.1, HH.out.2⟩
  · have HW : Hid (vkindb ⟨k, n, x, s, b⟩ = []) := Lib.hid (by unfold vkindb; rw [if_neg h1, if_neg h2, if_neg h3, if_neg h4])
    go_wp2_with fail
    go_ret
    exact ⟨_, rfl, by rw [HV.out, HL2.out, HW.out, List.append_nil]; exact HO2.out, HK2.out⟩

theorem att_size : (Try.prog.info? 44).map (·.size) = some 6 := by kernel_rfl
abbrev attbox (a : Att) : Obj := .cells #[.string a.name, .int .i64 a.v.k, .int .i64 a.v.n, .float .f64 a.v.x, .string a.v.s, .bool a.v.b] 44
theorem Ats.run {w wr : World} {A : Option Addr} {n : Nat} {l : List Att} (h : Ats w A n l) (hb : Below w.heap.size w wr) {k : Nat} (hk : k < l.length) :
    ∃ g o x, A = some ⟨g, o, none⟩ ∧ l[k]? = some x ∧ ∀ j u, x.cells[j]? = some u → wr.cell? ⟨g, o + k * 6 + j, none⟩ = some u := by
  obtain ⟨x, hx⟩ : ∃ x, l[k]? = some x := ⟨_, List.getElem?_eq_getElem hk⟩
  have hp : 0 < (flat l).length := by rw [flat_len _ Att.cells_len]; omega
  rcases h.row.2 with h1 | ⟨g, o, rfl, hc⟩
  · rw [h1] at hp; simp at hp
  · refine ⟨g, o, x, rfl, hx, fun j u hj => ?_⟩
    have hlt : j < 6 := (List.getElem?_eq_some_iff.1 hj).1
    have h0 := hc (k * 6 + j) u (by unfold flat; rw [flat_get _ Att.cells_len l k j x hx hlt]; exact hj)
    rw [← Nat.add_assoc] at h0
    exact (hb.cell (cell_lt h0)).trans h0
theorem textb_len {s : ByteArray} (h : s.size ≤ 100) : (textb s).length ≤ 109 := by
  unfold textb
  rw [List.length_append, bytesOf_len]
  have := natb_len9 (m := s.size) (by omega)
  omega
theorem valueb_len {v : Val} (h : Lays v) : (valueb v).length ≤ 120 := by
  unfold valueb vkindb
  rw [List.length_append]
  have h1 := natw_len v.k
  have h2 := textb_len h.s
  have h3 : (boolb v.b).length ≤ 9 := natw_len _
  split
  · rw [eightb_len]; omega
  · split
    · rw [eightb_len]; omega
    · split
      · omega
      · split
        · omega
        · simp; omega
theorem attb_len {a : Att} (h : a.name.size ≤ 100) (h' : Lays a.v) : (attb a).length ≤ 230 := by
  unfold attb
  rw [List.length_append]
  have := textb_len h
  have := valueb_len h'
  omega
end Go.Proofs.Ytgenmebmdpnjhaa
