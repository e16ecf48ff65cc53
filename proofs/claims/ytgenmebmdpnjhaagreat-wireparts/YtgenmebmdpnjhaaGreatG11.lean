/- G11: PackFacts, WireLay1, WireLay2 in one text. -/
import Derived.Test.YtgenmebmdpnjhaaGreatRefReader
import Derived.Test.YtgenmebmdpnjhaaGreatWireW
import Derived.Test.YtgenmebmdpnjhaaGreatG9
import Derived.Test.YtgenmebmdpnjhaaGreatG1c
namespace Go.Proofs.YtgenmebmdpnjhaaGreat
open Go.RowKit

theorem natb_pos (m : Nat) : 0 < (natb m).length := by
  by_cases h : m < 128
  · rw [natb_small h]; simp
  · rw [natb_big (by omega)]; simp
/-- Each byte but the last has its highest bit set. -/
theorem natb_high (m : Nat) : ∀ j, j + 1 < (natb m).length → 128 ≤ (natb m).getD j 0 := by
  induction m using Nat.strongRecOn with
  | _ m ih =>
    intro j hj
    by_cases h : m < 128
    · rw [natb_small h] at hj; simp at hj
    · rw [natb_big (by omega)] at hj ⊢
      cases j with
      | zero => simp
      | succ j => simpa using ih (m / 128) (by omega) j (by simpa using hj)
theorem natb_last (m : Nat) : (natb m).getD ((natb m).length - 1) 0 < 128 ∧ (0 < m → 0 < (natb m).getD ((natb m).length - 1) 0) := by
  induction m using Nat.strongRecOn with
  | _ m ih =>
    by_cases h : m < 128
    · rw [natb_small h]; simpa using h
    · rw [natb_big (by omega)]
      have hp := natb_pos (m / 128)
      obtain ⟨h1, h2⟩ := ih (m / 128) (by omega)
      obtain ⟨q, hq⟩ : ∃ q, (natb (m / 128)).length = q + 1 := ⟨_, (Nat.succ_pred_eq_of_pos hp).symm⟩
      rw [hq] at h1 h2
      have h2 := h2 (by omega)
      simp only [List.length_cons, hq, Nat.add_sub_cancel] at h1 h2 ⊢
      exact ⟨by simpa using h1, fun _ => by simpa using h2⟩
theorem valb_natb (m : Nat) : valb (natb m) = m := by
  induction m using Nat.strongRecOn with
  | _ m ih =>
    by_cases h : m < 128
    · rw [natb_small h]; simp [valb]; omega
    · rw [natb_big (by omega), valb, ih (m / 128) (by omega)]; omega

theorem natb_len9 {m : Nat} (h : m ≤ 4611686018427387904) : (natb m).length ≤ 9 := by
  have e : (128 : Nat) ^ 9 = 9223372036854775808 := by decide
  exact natb_len 8 m (by omega)
theorem getD_left {l r : List Nat} {j : Nat} (h : j < l.length) : (l ++ r).getD j 0 = l.getD j 0 := by simp [List.getElem?_append_left h]
theorem lead_natb {m : Nat} (h : m ≤ 4611686018427387904) (rest : List Nat) : lead (natb m ++ rest) = (natb m).length - 1 := by
  have h9 := natb_len9 h
  have hp := natb_pos m
  refine led_end ⟨by omega, by rw [List.length_append]; omega, fun j hj => ?_⟩ (.inr (.inr ?_))
  · have := natb_high m j (by omega)
    rw [getD_left (by omega)]
    exact this
  · rw [getD_left (by omega)]
    exact (natb_last m).1
/-- What Nat lays is taken. -/
theorem nat_back {m : Nat} (h : m ≤ 4611686018427387904) (rest : List Nat) : natErr (natb m ++ rest) = 0 ∧ natVal (natb m ++ rest) = m ∧ natTaken (natb m ++ rest) = (natb m).length := by
  have hl := lead_natb h rest
  have h9 := natb_len9 h
  have hp := natb_pos m
  have ht : (natb m ++ rest).take ((natb m).length - 1 + 1) = natb m := by
    rw [Nat.sub_add_cancel hp]
    exact List.take_left
  refine ⟨?_, ?_, ?_⟩
  · unfold natErr
    rw [hl, ht, valb_natb, if_neg (by omega), if_neg (by rw [List.length_append]; omega), if_neg]
    rintro (⟨h1, h2⟩ | h1)
    · rw [getD_left (by omega)] at h2
      have hm : 0 < m := by
        rcases Nat.eq_zero_or_pos m with e | e
        · subst e; rw [natb_small (by omega)] at h1; simp at h1
        · exact e
      have := (natb_last m).2 hm
      omega
    · omega
  · unfold natVal; rw [hl, ht, valb_natb]
  · unfold natTaken; rw [hl]; omega
/-- Cut short it is too short. -/
theorem nat_cut {m : Nat} (h : m ≤ 4611686018427387904) {k : Nat} (hk : k < (natb m).length) : natErr ((natb m).take k) = 2 := by
  have h9 := natb_len9 h
  have hl : lead ((natb m).take k) = k := by
    refine led_end ⟨by omega, by rw [List.length_take]; omega, fun j hj => ?_⟩ (.inr (.inl (by rw [List.length_take]; omega)))
    have := natb_high m j (by omega)
    rw [show ((natb m).take k).getD j 0 = (natb m).getD j 0 by simp [hj]]
    exact this
  unfold natErr
  rw [hl, if_neg (by omega), if_pos (by rw [List.length_take]; omega)]
theorem wordn_eight {v : Nat} (h : v < 18446744073709551616) (rest : List Nat) : wordn (eightb v ++ rest) 8 = v := by
  have e : (eightb v ++ rest).take 8 = eightb v := List.take_left (l₁ := eightb v)
  unfold wordn
  rw [e]
  simp [eightb, List.range, List.range.loop]
  omega
theorem wrap_word {i : Int} (h1 : -9223372036854775808 ≤ i) (h2 : i ≤ 9223372036854775807) : wrap64 ((wordOf i : Nat) : Int) = i := by
  have e := (Int.toNat_of_nonneg (Int.emod_nonneg i (show (18446744073709551616 : Int) ≠ 0 by omega)))
  unfold wordOf
  rw [e]
  go_arith
theorem tstr_bytes (s : ByteArray) : tstr (bytesOf s) = s := by
  obtain ⟨⟨l⟩⟩ := s
  simp [tstr, bytesOf, strOfNums, List.map_map, Function.comp_def]
theorem bytesOf_small (s : ByteArray) : Bytey (bytesOf s) := by
  intro b hb
  obtain ⟨u, _, rfl⟩ := List.mem_map.1 hb
  exact u.toNat_lt
theorem natb_small_bytes (m : Nat) : Bytey (natb m) := by
  induction m using Nat.strongRecOn with
  | _ m ih =>
    intro b hb
    by_cases h : m < 128
    · rw [natb_small h] at hb
      simp at hb
      omega
    · rw [natb_big (by omega)] at hb
      rcases List.mem_cons.1 hb with e | e
      · omega
      · exact ih (m / 128) (by omega) b e
theorem eightb_small (v : Nat) : Bytey (eightb v) := by
  intro b hb
  obtain ⟨i, _, rfl⟩ := List.mem_map.1 hb
  exact Nat.mod_lt _ (by omega)
/-- What Text lays is taken. -/
theorem text_back {s : ByteArray} (hs : s.size ≤ 4611686018427387904) (rest : List Nat) {most : Int} (hm : (s.size : Int) ≤ most) :
    textErr (natb s.size ++ bytesOf s ++ rest) most = 0 ∧ textVal (natb s.size ++ bytesOf s ++ rest) = s ∧ textTaken (natb s.size ++ bytesOf s ++ rest) = (natb s.size).length + s.size := by
  rw [List.append_assoc]
  obtain ⟨h1, h2, h3⟩ := nat_back hs (bytesOf s ++ rest)
  have hl := bytesOf_len s
  refine ⟨?_, ?_, ?_⟩
  · unfold textErr
    rw [h1, h2, h3, if_pos rfl, if_neg (by omega), if_neg]
    simp only [List.length_append]
    omega
  · unfold textVal
    rw [h2, h3, List.drop_left, ← hl, List.take_left, tstr_bytes]
  · unfold textTaken
    rw [h2, h3]
/-- The bits that are told are told again. -/
theorem told_bits (x : Nat) : Fl.told (Fl.bits x) = true := by
  have hq : Fl.nan 9221120237041090560 = true := by decide
  have hz : Fl.nan 0 = false := by decide
  have hz2 : Fl.isZero 0 = true := by decide
  unfold Fl.told
  rw [beq_iff_eq]
  cases hn : Fl.nan x
  · cases h0 : Fl.isZero x
    · rw [Fl.bits_else hn h0, Fl.bits_else hn h0]
    · rw [Fl.bits_zero hn h0, Fl.bits_zero hz hz2]
  · rw [Fl.bits_nan hn, Fl.bits_nan hq]
end Go.Proofs.YtgenmebmdpnjhaaGreat

namespace Go.Proofs.YtgenmebmdpnjhaaGreat
open Go.RowKit
set_option linter.unusedVariables false
set_option maxRecDepth 100000

/-- A row of bytes that the call made. -/
abbrev OwnB (B : Nat) (w : World) (v : Value) (l : List Nat) : Prop := OwnW 1 B 5 w v l.length (l.map bcell)
/-- Of the blocks from B on only such as hold bytes may have turned. -/
structure Keep (B : Nat) (w w' : World) : Prop where
  below : Below B w w'
  obj : ∀ (g : Nat) (cs : Array Value) (t : TypeId) (fr : Nat × Nat), w.heap[g]? = some (.cells cs t fr) → t ≠ 5 → w'.heap[g]? = some (.cells cs t fr)
theorem Keep.refl (B : Nat) (w : World) : Keep B w w := ⟨Below.refl _ _, fun _ _ _ _ h _ => h⟩
theorem Keep.then {B : Nat} {a b c : World} (h : Keep B a b) (k : Keep B b c) : Keep B a c := ⟨h.below.trans k.below, fun g cs t fr hg ht => k.obj g cs t fr (h.obj g cs t fr hg ht) ht⟩
theorem Keep.later {B : Nat} {w w' : World} (hB : B ≤ w.heap.size) (k : Below w.heap.size w w') : Keep B w w' := ⟨below_sub k hB, fun g cs t fr hg _ => below_row k hg⟩
theorem Keep.own {B : Nat} {w w' : World} {v : Value} {l : List Nat} (h : OwnB B w v l) (k : Kept (fun i => v.ownBlock = some i) w w') : Keep B w w' :=
  ⟨k.below h.2 (fun i hi e => by have := ownw_base h i e; omega), fun g cs t fr hg ht => k.row hg (fun e => ownw_not h hg ht.symm g e rfl)⟩
theorem rd_rs {w : World} {A : Option Addr} {n c : Nat} {l : List Nat} (h : Rd w A n c l) : Rs 1 w A n (l.map bcell) := by
  refine ⟨by rw [List.length_map, h.1, Nat.mul_one], ?_⟩
  rcases h.2 with ⟨-, h0, -⟩ | ⟨rb, ro, e, hc⟩
  · left
    have := h.1
    rw [List.eq_nil_of_length_eq_zero (l := l) (by omega)]
    rfl
  · refine .inr ⟨rb, ro, e, fun j u hj => ?_⟩
    rw [List.getElem?_map] at hj
    obtain ⟨b, hb, rfl⟩ := Option.map_eq_some_iff.1 hj
    exact hc j b hb
theorem rd_none {w : World} {A : Option Addr} {n c : Nat} {l : List Nat} (h : Rd w A n c l) : A = none → n = 0 ∧ c = 0 := by
  rintro rfl
  rcases h.2 with ⟨-, h0, h1⟩ | ⟨rb, ro, e, -⟩
  · exact ⟨h0, h1⟩
  · cases e
theorem bcells_one (l : List Nat) : ∀ u ∈ l.map bcell, u.oneCell' = true := by
  intro u hu
  obtain ⟨b, -, rfl⟩ := List.mem_map.1 hu
  rfl
theorem ownb_add {B : Nat} {w : World} {v : Value} {l m : List Nat} {n : Nat} (h : OwnW 1 B 5 w v (l.length + n) (l.map bcell ++ m.map bcell)) (hn : m.length = n) : OwnB B w v (l ++ m) := by
  unfold OwnB
  rw [List.length_append, hn, List.map_append]
  exact h
theorem ownb_nil (B : Nat) (w : World) (hB : B ≤ w.heap.size) : OwnB B w (.slice none 0 0) [] := OwnW.nil _ _ _ hB
theorem natw_len (n : Int) : (natw n).length ≤ 9 := by
  unfold natw
  split
  · exact natb_len9 (by omega)
  · simp
theorem rd_nil (w : World) : Rd w none 0 0 [] := ⟨rfl, .inl ⟨rfl, rfl, rfl⟩⟩
/-- How the functions that lay end. -/
def AddPost (B : Nat) (l : List Nat) (w : World) (e : Ending) (w' : World) : Prop := ∃ v', e = .returned v' ∧ OwnB B w' v' l ∧ Keep B w w'
/-- A row of numbers, just made. -/
abbrev ibox (ns : List Int) : Obj := .cells (ns.map (Value.int .i64)).toArray 3
theorem int_cell {w : World} {g : Nat} {ns : List Int} (h : w.heap[g]? = some (ibox ns)) {k : Nat} {n : Int} (hk : ns[k]? = some n) : w.cell? ⟨g, k, none⟩ = some (.int .i64 n) := by
  rw [cell_of_row _ _ k _ _ _ h]
  simp [hk]

set_option maxHeartbeats 8000000 in
theorem addnats_any {B g : Nat} {v : Value} {l : List Nat} {ns : List Int} {w : World} (h : OwnB B w v l) (hg : w.heap[g]? = some (ibox ns)) (hl : l.length + 9 * ns.length ≤ 900000) :
    Calls Tryz.prog 46 #[v, .slice (some ⟨g, 0, none⟩) ns.length ns.length] w (AddPost B (l ++ ns.flatMap natw) w) := by
  have HO := Lib.hid h
  have HG := Lib.hid hg
  have hlen : ns.length ≤ 100000 := by omega
  clear h hg
  go_enter Tryz.func46, Tryz.ntmps46
  go_wp2_with fail
  go_loopw [0, 9] (fun vv ii wr => ∃ k : Nat, k ≤ ns.length ∧ ii = .int .i64 (k : Int) ∧ OwnB B wr vv (l ++ (ns.take k).flatMap natw) ∧ Keep B w wr ∧ (l ++ (ns.take k).flatMap natw).length ≤ l.length + 9 * k) (fun _ ii _ => ns.length - (intOf ii).toNat)
  case atStart => exact ⟨0, by omega, rfl, by simpa using HO.out, Keep.refl _ _, by simp⟩
  case round =>
    obtain ⟨k, hk, rfl, hO, hK, hL⟩ := hrel
    have HO2 := Lib.hid hO
    have HK := Lib.hid hK
    have HL := Lib.hid hL
    clear hO hK hL
    by_cases hlt : k < ns.length
    · obtain ⟨n, hn⟩ : ∃ n, ns[k]? = some n := ⟨_, List.getElem?_eq_getElem hlt⟩
      have hc := int_cell (HK.out.obj _ _ _ _ HG.out (by decide)) hn
      have HN : Hid ((ns.take (k + 1)).flatMap natw = (ns.take k).flatMap natw ++ natw n) := Lib.hid (by rw [List.take_add_one, hn, List.flatMap_append]; simp)
      have hnl := natw_len n
      clear hn
      go_wp2_with fail
      refine (pnat_any n (rd_nil _) (by omega)).mono ?_
      rintro e w2 ⟨v2, rfl, hL2⟩
      obtain ⟨A2, c2, rfl, hR2⟩ := hL2.reads
      rw [List.nil_append] at hR2
      have HR2 := Lib.hid hR2
      have HO3 := Lib.hid (HO2.out.later hL2.below)
      have HK3 := Lib.hid (HK.out.then (Keep.later HO2.out.2 hL2.below))
      clear hL2 hR2 HO2 HK hc
      rw [List.nil_append]
      have hLL := HL.out
      generalize h1 : l ++ (ns.take k).flatMap natw = l1 at HO3 HL hLL ⊢
      have H1 := Lib.hid h1
      clear h1
      go_wp2_with (first | (at_builtin; refine wpList_ownw (k := 1) rfl _ _ 23 rfl Tryz.underlying23 info_byte rfl (by decide) B _ l1.length (l1.map bcell) rfl HO3.out A2 (natw n).length c2 rfl (rd_none HR2.out) ((natw n).map bcell) (rd_rs HR2.out) (bcells_one _) (by omega) (by decide) ?_; intro v4 w4 hO4 hK4; have HO4 := Lib.hid (ownb_add hO4 rfl); have HK4 := Lib.hid (HK3.out.then (Keep.own HO3.out hK4)); clear hO4 hK4))
      exact ⟨⟨k + 1, by omega, rfl, by rw [HN.out, ← List.append_assoc, H1.out]; exact HO4.out, HK4.out, by rw [HN.out, ← List.append_assoc, H1.out, List.length_append]; omega⟩, by simp [intOf]; omega⟩
    · obtain rfl : k = ns.length := by omega
      have hO := HO2.out
      rw [List.take_length] at hO
      have HO3 := Lib.hid hO
      clear hO HO2
      go_wp2_with fail
      go_ret
      exact ⟨_, rfl, HO3.out, HK.out⟩

/-- The bytes of a text, of a bool, of a Value, an Attr, a Stamp, an Event. -/
def textb (s : ByteArray) : List Nat := natb s.size ++ bytesOf s
def boolb (b : Bool) : List Nat := natw (if b then 1 else 0)
def vkindb (v : Val) : List Nat := if v.k = 1 then eightb (wordOf v.n) else if v.k = 2 then eightb (Fl.bits v.x) else if v.k = 3 then textb v.s else if v.k = 4 then boolb v.b else []
def valueb (v : Val) : List Nat := natw v.k ++ vkindb v
def attb (a : Att) : List Nat := textb a.name ++ valueb a.v
def stb (s : St) : List Nat := natw s.atom ++ natw s.n
def eventb (e : Ev) : List Nat := [e.c, e.b, e.s, e.e, e.a].flatMap natw ++ (natw e.l.length ++ (e.l.flatMap attb ++ (natw e.t.length ++ e.t.flatMap stb)))

set_option maxHeartbeats 8000000 in
theorem addtext_any {B : Nat} {v : Value} {l : List Nat} {s : ByteArray} {w : World} (h : OwnB B w v l) (hs : s.size ≤ 100) (hl : l.length ≤ 800000) :
    Calls Tryz.prog 84 #[v, .string s] w (AddPost B (l ++ textb s) w) := by
  have HO := Lib.hid h
  clear h
  go_enter Tryz.func84, Tryz.ntmps84
  go_wp2_with fail
  refine (ptext_any s (by omega) (rd_nil _) (by omega)).mono ?_
  rintro e w2 ⟨v2, rfl, hL2⟩
  obtain ⟨A2, c2, rfl, hR2⟩ := hL2.reads
  rw [List.nil_append] at hR2
  have HT : Hid ((natb s.size ++ bytesOf s).length ≤ 200) := Lib.hid (by
    rw [List.length_append, bytesOf_len]
    have := natb_len9 (m := s.size) (by omega)
    omega)
  have HR2 : Hid (Rd w2 A2 (textb s).length c2 (textb s)) := hR2
  have HO3 := Lib.hid (HO.out.later hL2.below)
  have HK3 := Lib.hid (Keep.later HO.out.2 hL2.below)
  have hT : (textb s).length ≤ 200 := HT.out
  clear hL2 hR2 HO HT
  rw [List.nil_append, show natb s.size ++ bytesOf s = textb s from rfl]
  go_wp2_with (first | (at_builtin; refine wpList_ownw (k := 1) rfl _ _ 23 rfl Tryz.underlying23 info_byte rfl (by decide) B _ l.length (l.map bcell) rfl HO3.out A2 (textb s).length c2 rfl (rd_none HR2.out) ((textb s).map bcell) (rd_rs HR2.out) (bcells_one _) (by omega) (by decide) ?_; intro v4 w4 hO4 hK4; have HO4 := Lib.hid (ownb_add hO4 rfl); have HK4 := Lib.hid (HK3.out.then (Keep.own HO3.out hK4)); clear hO4 hK4))
  go_ret
  exact ⟨_, rfl, HO4.out, HK4.out⟩

theorem natw_one (n : Int) : [n].flatMap natw = natw n := by simp
/-- addNats of a row just made. -/
theorem addnats_new {B : Nat} {v : Value} {l : List Nat} {w : World} (ns : List Int) (h : OwnB B w v l) (hl : l.length + 9 * ns.length ≤ 900000) (n : Nat) (hn : ns.length = n) (cs : Array Value) (hcs : cs = (ns.map (Value.int .i64)).toArray) :
    Calls Tryz.prog 46 #[v, .slice (some ⟨w.heap.size, 0, none⟩) n n] (w.alloc (.cells cs 3)) (AddPost B (l ++ ns.flatMap natw) w) := by
  subst hn
  subst hcs
  refine (addnats_any (ns := ns) (h.later (one_new _ _)) (heap_alloc_new _ _) hl).mono ?_
  rintro e w' ⟨v', rfl, hO, hK⟩
  exact ⟨v', rfl, hO, (Keep.later h.2 (one_new _ _)).then hK⟩

set_option maxHeartbeats 8000000 in
theorem addbool_any {B : Nat} {v : Value} {l : List Nat} {b : Bool} {w : World} (h : OwnB B w v l) (hl : l.length ≤ 800000) :
    Calls Tryz.prog 83 #[v, .bool b] w (AddPost B (l ++ boolb b) w) := by
  have HO := Lib.hid h
  clear h
  cases b
  · go_enter Tryz.func83, Tryz.ntmps83
    go_wp2_with fail
    refine (addnats_new [0] HO.out (by show l.length + 9 * 1 ≤ 900000; omega) 1 rfl _ rfl).mono ?_
    rintro e w' ⟨v', rfl, hO, hK⟩
    rw [natw_one] at hO
    have HH := Lib.hid (And.intro hO hK)
    clear hO hK
    go_wp2_with fail
    go_ret
    exact ⟨_, rfl, HH.out.1, HH.out.2⟩
  · go_enter Tryz.func83, Tryz.ntmps83
    go_wp2_with fail
    refine (addnats_new [1] HO.out (by show l.length + 9 * 1 ≤ 900000; omega) 1 rfl _ rfl).mono ?_
    rintro e w' ⟨v', rfl, hO, hK⟩
    rw [natw_one] at hO
    have HH := Lib.hid (And.intro hO hK)
    clear hO hK
    go_wp2_with fail
    go_ret
    exact ⟨_, rfl, HH.out.1, HH.out.2⟩

/-- What is small enough of a Value to be laid. -/
structure Lays (v : Val) : Prop where
  x : v.x < 2 ^ 64
  s : v.s.size ≤ 100

set_option maxHeartbeats 16000000 in
theorem addvalue_any {B : Nat} {v : Value} {l : List Nat} {a : Val} {w : World} (h : OwnB B w v l) (ha : Lays a) (hl : l.length ≤ 700000) :
    Calls Tryz.prog 85 #[v, vlv a] w (AddPost B (l ++ valueb a) w) := by
  obtain ⟨k, n, x, s, b⟩ := a
  have hn := one_new w (.cells #[.int .i64 k, .int .i64 n, .float .f64 x, .string s, .bool b] 64)
  have HR := Lib.hid (heap_alloc_new w (.cells #[.int .i64 k, .int .i64 n, .float .f64 x, .string s, .bool b] 64))
  have HO := Lib.hid (h.later hn)
  have HK0 := Lib.hid (Keep.later h.2 hn)
  have hx := ha.x
  have hs := ha.s
  dsimp only at hx hs
  clear h hn ha
  have hst := store_float
  go_enter Tryz.func85, Tryz.ntmps85
  go_upto_region 1 with fail
  generalize w.alloc _ = w1 at HR HO HK0 ⊢
  generalize w.heap.size = g at HR ⊢
  obtain ⟨c0, c1, c2, c3, c4, -⟩ := five HR.out
  go_wp2_with fail
  refine (addnats_new [k] HO.out (by show l.length + 9 * 1 ≤ 900000; omega) 1 rfl _ rfl).mono ?_
  rintro e w2 ⟨v2, rfl, hO, hK⟩
  rw [natw_one] at hO
  have HO2 := Lib.hid hO
  have HR2 := Lib.hid (hK.obj _ _ _ _ HR.out (by decide))
  have HK2 := Lib.hid (HK0.out.then hK)
  have hkl := natw_len k
  have hl2 : (l ++ natw k).length ≤ 700009 := by rw [List.length_append]; omega
  clear hO hK HR HO HK0 c0 c1 c2 c3 c4
  have HV : Hid (l ++ valueb ⟨k, n, x, s, b⟩ = (l ++ natw k) ++ vkindb ⟨k, n, x, s, b⟩) := Lib.hid (by unfold valueb; rw [List.append_assoc])
  generalize hq2 : l ++ natw k = l2 at HO2 hl2
  have HL2 := Lib.hid hq2
  clear hq2
  obtain ⟨c0, c1, c2, c3, c4, -⟩ := five HR2.out
  by_cases h1 : k = 1
  · subst h1
    have HW : Hid (vkindb ⟨1, n, x, s, b⟩ = eightb (wordOf n)) := Lib.hid rfl
    go_wp2_with fail
    refine (pint_any n (rd_nil _) (by omega)).mono ?_
    rintro e w3 ⟨v3, rfl, hL3⟩
    obtain ⟨A3, c3', rfl, hR3⟩ := hL3.reads
    rw [List.nil_append] at hR3
    have HR3 := Lib.hid hR3
    have HO3 := Lib.hid (HO2.out.later hL3.below)
    have HK3 := Lib.hid (HK2.out.then (Keep.later HO2.out.2 hL3.below))
    clear hL3 hR3 HO2 HK2 HR2 c0 c1 c2 c3 c4
    rw [List.nil_append]
    go_wp2_with (first | (at_builtin; refine wpList_ownw (k := 1) rfl _ _ 23 rfl Tryz.underlying23 info_byte rfl (by decide) B _ l2.length (l2.map bcell) rfl HO3.out A3 8 c3' rfl (rd_none HR3.out) ((eightb (wordOf n)).map bcell) (rd_rs HR3.out) (bcells_one _) (by omega) (by decide) ?_; intro v4 w4 hO4 hK4; have HO4 := Lib.hid (ownb_add hO4 rfl); have HK4 := Lib.hid (HK3.out.then (Keep.own HO3.out hK4)); clear hO4 hK4))
    go_ret
    exact ⟨_, rfl, by rw [HV.out, HL2.out, HW.out]; exact HO4.out, HK4.out⟩
  by_cases h2 : k = 2
  · subst h2
    have HW : Hid (vkindb ⟨2, n, x, s, b⟩ = eightb (Fl.bits x)) := Lib.hid rfl
    go_wp2_with fail
    refine (pfloat_any x hx (rd_nil _) (by omega)).mono ?_
    rintro e w3 ⟨v3, rfl, hL3⟩
    obtain ⟨A3, c3', rfl, hR3⟩ := hL3.reads
    rw [List.nil_append] at hR3
    have HR3 := Lib.hid hR3
    have HO3 := Lib.hid (HO2.out.later hL3.below)
    have HK3 := Lib.hid (HK2.out.then (Keep.later HO2.out.2 hL3.below))
    clear hL3 hR3 HO2 HK2 HR2 c0 c1 c2 c3 c4
    rw [List.nil_append]
    go_wp2_with (first | (at_builtin; refine wpList_ownw (k := 1) rfl _ _ 23 rfl Tryz.underlying23 info_byte rfl (by decide) B _ l2.length (l2.map bcell) rfl HO3.out A3 8 c3' rfl (rd_none HR3.out) ((eightb (Fl.bits x)).map bcell) (rd_rs HR3.out) (bcells_one _) (by omega) (by decide) ?_; intro v4 w4 hO4 hK4; have HO4 := Lib.hid (ownb_add hO4 rfl); have HK4 := Lib.hid (HK3.out.then (Keep.own HO3.out hK4)); clear hO4 hK4))
    go_ret
    exact ⟨_, rfl, by rw [HV.out, HL2.out, HW.out]; exact HO4.out, HK4.out⟩
  by_cases h3 : k = 3
  · subst h3
    have HW : Hid (vkindb ⟨3, n, x, s, b⟩ = textb s) := Lib.hid rfl
    go_wp2_with fail
    refine (addtext_any HO2.out hs (by omega)).mono ?_
    rintro e w3 ⟨v3, rfl, hO, hK⟩
    have HH := Lib.hid (And.intro hO (HK2.out.then hK))
    clear hO hK c0 c1 c2 c3 c4
    go_wp2_with fail
    go_ret
    exact ⟨_, rfl, by rw [HV.out, HL2.out, HW.out]; exact HH.out.1, HH.out.2⟩
  by_cases h4 : k = 4
  · subst h4
    have HW : Hid (vkindb ⟨4, n, x, s, b⟩ = boolb b) := Lib.hid rfl
    go_wp2_with fail
    refine (addbool_any HO2.out (by omega)).mono ?_
    rintro e w3 ⟨v3, rfl, hO, hK⟩
    have HH := Lib.hid (And.intro hO (HK2.out.then hK))
    clear hO hK c0 c1 c2 c3 c4
    go_wp2_with fail
    go_ret
    exact ⟨_, rfl, by rw [HV.out, HL2.out, HW.out]; exact HH.out.1, HH.out.2⟩
  · have HW : Hid (vkindb ⟨k, n, x, s, b⟩ = []) := Lib.hid (by unfold vkindb; rw [if_neg h1, if_neg h2, if_neg h3, if_neg h4])
    go_wp2_with fail
    go_ret
    exact ⟨_, rfl, by rw [HV.out, HL2.out, HW.out, List.append_nil]; exact HO2.out, HK2.out⟩

theorem att_size : (Tryz.prog.info? 66).map (·.size) = some 6 := by kernel_rfl
abbrev attbox (a : Att) : Obj := .cells #[.string a.name, .int .i64 a.v.k, .int .i64 a.v.n, .float .f64 a.v.x, .string a.v.s, .bool a.v.b] 66
theorem Ats.run {w wr : World} {A : Option Addr} {n : Nat} {l : List Att} (h : Ats w A n l) (hb : Below w.heap.size w wr) {k : Nat} (hk : k < l.length) :
    ∃ g o x, A = some ⟨g, o, none⟩ ∧ l[k]? = some x ∧ ∀ j u, x.cells[j]? = some u → wr.cell? ⟨g, o + k * 6 + j, none⟩ = some u := by
  obtain ⟨x, hx⟩ : ∃ x, l[k]? = some x := ⟨_, List.getElem?_eq_getElem hk⟩
  have hp : 0 < (flat l).length := by rw [flat_len _ Att.cells_len]; omega
  rcases h.row.2 with h1 | ⟨g, o, rfl, hc⟩
  · rw [h1] at hp; simp at hp
  · refine ⟨g, o, x, rfl, hx, fun j u hj => ?_⟩
    have hlt : j < 6 := (List.getElem?_eq_some_iff.1 hj).1
    have h0 := hc (k * 6 + j) u (by unfold flat; rw [flat_get _ Att.cells_len l k j x hx hlt]; exact hj)
    rw [← Nat.add_assoc] at h0
    exact (hb.cell (cell_lt h0)).trans h0
theorem textb_len {s : ByteArray} (h : s.size ≤ 100) : (textb s).length ≤ 109 := by
  unfold textb
  rw [List.length_append, bytesOf_len]
  have := natb_len9 (m := s.size) (by omega)
  omega
theorem valueb_len {v : Val} (h : Lays v) : (valueb v).length ≤ 120 := by
  unfold valueb vkindb
  rw [List.length_append]
  have h1 := natw_len v.k
  have h2 := textb_len h.s
  have h3 : (boolb v.b).length ≤ 9 := natw_len _
  split
  · rw [eightb_len]; omega
  · split
    · rw [eightb_len]; omega
    · split
      · omega
      · split
        · omega
        · simp; omega
theorem attb_len {a : Att} (h : a.name.size ≤ 100) (h' : Lays a.v) : (attb a).length ≤ 230 := by
  unfold attb
  rw [List.length_append]
  have := textb_len h
  have := valueb_len h'
  omega
end Go.Proofs.YtgenmebmdpnjhaaGreat

namespace Go.Proofs.YtgenmebmdpnjhaaGreat
open Go.RowKit
set_option linter.unusedVariables false
set_option maxRecDepth 100000

theorem flat_next {α : Type} {f : α → List Nat} {l : List α} {k : Nat} {a : α} (h : l[k]? = some a) : (l.take (k + 1)).flatMap f = (l.take k).flatMap f ++ f a := by
  rw [List.take_add_one, h, List.flatMap_append]; simp
theorem natws_len (ns : List Int) : (ns.flatMap natw).length ≤ 9 * ns.length := by
  induction ns with
  | nil => simp
  | cons n ns ih => rw [List.flatMap_cons, List.length_append, List.length_cons]; have := natw_len n; omega
/-- An Event that can be laid. -/
structure EvLays (e : Ev) : Prop where
  names : ∀ a, a ∈ e.l → a.name.size ≤ 100 ∧ Lays a.v
  few : e.l.length ≤ 100
  stamps : e.t.length ≤ 200

set_option maxHeartbeats 16000000 in
theorem addevent_any {B : Nat} {v : Value} {l : List Nat} {e : Ev} {W0 w : World} (hB : W0.heap.size = B) (h : OwnB B w v l) (he : IsEv W0 e) (hs : EvLays e) (hb : Below B W0 w) (hl : l.length ≤ 1000) :
    Calls Tryz.prog 49 #[v, evv e] w (AddPost B (l ++ eventb e) w) := by
  subst hB
  have hn := one_new w (evbox e)
  have HR := Lib.hid (heap_alloc_new w (evbox e))
  have HO := Lib.hid (h.later hn)
  have HK0 := Lib.hid (Keep.later h.2 hn)
  have HB := Lib.hid (hb.trans (below_sub hn h.2))
  have HE := Lib.hid he
  have HS := Lib.hid hs
  have hfew := hs.few
  have hst := hs.stamps
  clear h hn he hs hb
  have hsf := store_float
  have HEV : Hid (eventb e = [e.c, e.b, e.s, e.e, e.a].flatMap natw ++ (natw e.l.length ++ (e.l.flatMap attb ++ (natw e.t.length ++ e.t.flatMap stb)))) := Lib.hid rfl
  go_enter Tryz.func49, Tryz.ntmps49
  go_upto_region 1 with fail
  dsimp only [evbox] at HR HO HK0 HB
  generalize w.alloc _ = w1 at HR HO HK0 HB ⊢
  generalize w.heap.size = g at HR ⊢
  have c0 := cell_of_row _ _ 0 _ _ _ HR.out
  have c1 := cell_of_row _ _ 1 _ _ _ HR.out
  have c2 := cell_of_row _ _ 2 _ _ _ HR.out
  have c3 := cell_of_row _ _ 3 _ _ _ HR.out
  have c4 := cell_of_row _ _ 4 _ _ _ HR.out
  go_wp2_with fail
  refine (addnats_new [e.c, e.b, e.s, e.e, e.a] HO.out (by show l.length + 9 * 5 ≤ 900000; omega) 5 rfl _ rfl).mono ?_
  rintro r w2 ⟨v2, rfl, hO, hK⟩
  have h5 : ([e.c, e.b, e.s, e.e, e.a].flatMap natw).length ≤ 45 := natws_len [e.c, e.b, e.s, e.e, e.a]
  generalize [e.c, e.b, e.s, e.e, e.a].flatMap natw = five5 at hO HEV h5
  have HO2 := Lib.hid hO
  have HR2 := Lib.hid (hK.obj _ _ _ _ HR.out (by decide))
  have HK2 := Lib.hid (HK0.out.then hK)
  have HB2 := Lib.hid (HB.out.trans hK.below)
  clear hO hK HR HO HK0 HB c0 c1 c2 c3 c4
  have c5 := cell_of_row _ _ 5 _ _ _ HR2.out
  have hlen2 : (l ++ five5).length ≤ 1045 := by rw [List.length_append]; omega
  go_wp2_with fail
  refine (addnats_new [(e.l.length : Int)] HO2.out (by show (l ++ five5).length + 9 * 1 ≤ 900000; omega) 1 rfl _ rfl).mono ?_
  rintro r w3 ⟨v3, rfl, hO, hK⟩
  rw [natw_one] at hO
  have hn1 := natw_len (e.l.length : Int)
  generalize natw (e.l.length : Int) = na at hO HEV hn1
  have HO3 := Lib.hid hO
  have HR3 := Lib.hid (hK.obj _ _ _ _ HR2.out (by decide))
  have HK3 := Lib.hid (HK2.out.then hK)
  have HB3 := Lib.hid (HB2.out.trans hK.below)
  clear hO hK HR2 HO2 HK2 HB2 c5
  have c5 := cell_of_row _ _ 5 _ _ _ HR3.out
  have hlen3 : ((l ++ five5) ++ na).length ≤ 1054 := by rw [List.length_append]; omega
  generalize hq3 : (l ++ five5) ++ na = l3 at HO3 hlen3
  have HL3 := Lib.hid hq3
  clear hq3
  go_wp2_with fail
  go_loopw [0, 31] (fun vv ii wr => ∃ k : Nat, k ≤ e.l.length ∧ ii = .int .i64 (k : Int) ∧ OwnB W0.heap.size wr vv (l3 ++ (e.l.take k).flatMap attb) ∧ Keep W0.heap.size w3 wr ∧ (l3 ++ (e.l.take k).flatMap attb).length ≤ 1054 + 230 * k) (fun _ ii _ => e.l.length - (intOf ii).toNat)
  case atStart => exact ⟨0, by omega, rfl, by simpa using HO3.out, Keep.refl _ _, by simpa using hlen3⟩
  case round =>
    obtain ⟨k, hk, rfl, hO, hK, hL⟩ := hrel
    clear c5
    have HO4 := Lib.hid hO
    have HK4 := Lib.hid hK
    have HL4 := Lib.hid hL
    clear hO hK hL
    by_cases hlt : k < e.l.length
    · obtain ⟨ga, oa, a, hA, ha, hc⟩ := HE.out.l.run (HB3.out.trans HK4.out.below) hlt
      have hsm := HS.out.names a (List.mem_of_getElem? ha)
      have HN := Lib.hid (flat_next (f := attb) ha)
      have hal := attb_len hsm.1 hsm.2
      have HG := Lib.hid hc
      have HSM := Lib.hid hsm
      clear ha hc hsm
      generalize hq4 : l3 ++ (e.l.take k).flatMap attb = l4 at HO4 HL4
      have HL5 := Lib.hid hq4
      have hl4 := HL4.out
      clear hq4
      rw [hA]
      go_upto_region 6 with (first | (refine wpList_load_at rfl 66 _ rfl ga (oa + k * 6) a.cells _ rfl HG.out Tryz.underlying66 rfl att_size ?_; dsimp only [Att.cells]))
      have hn2 := one_new wr (attbox a)
      have HN2 := Lib.hid (heap_alloc_new wr (attbox a))
      have HO5 := Lib.hid (HO4.out.later hn2)
      have HK5 := Lib.hid (HK4.out.then (Keep.later HO4.out.2 hn2))
      clear hn2 HO4 HK4 HG
      dsimp only [attbox] at HN2 HO5 HK5
      generalize wr.alloc _ = w4 at HN2 HO5 HK5 ⊢
      generalize wr.heap.size = gb at HN2 ⊢
      have q0 := cell_of_row _ _ 0 _ _ _ HN2.out
      go_wp2_with fail
      refine (addtext_any HO5.out HSM.out.1 (by omega)).mono ?_
      rintro r w5 ⟨v5, rfl, hO, hK⟩
      have HO6 := Lib.hid hO
      have HN3 := Lib.hid (hK.obj _ _ _ _ HN2.out (by decide))
      have HK6 := Lib.hid (HK5.out.then hK)
      have hl5 : (l4 ++ textb a.name).length ≤ 100000 := by rw [List.length_append]; have := textb_len HSM.out.1; omega
      clear hO hK q0 HN2 HO5 HK5
      have HV := Lib.hid (cells_part (ds := a.v.cells) (cells_row (cs := a.cells) HN3.out) (Nat.zero_add 1) (fun j v hj => by rw [Nat.add_comm]; exact hj))
      go_wp2_with (first | (refine wpList_load_at rfl 64 _ rfl gb 1 a.v.cells _ rfl HV.out Tryz.underlying64 rfl val_size ?_; dsimp only [Val.cells]) | fail)
      refine (addvalue_any (a := a.v) HO6.out HSM.out.2 (by omega)).mono ?_
      rintro r w6 ⟨v6, rfl, hO, hK⟩
      have HO7 := Lib.hid hO
      have HK7 := Lib.hid (HK6.out.then hK)
      clear hO hK HO6 HK6 HN3 HV
      have HF : Hid ((l4 ++ textb a.name) ++ valueb a.v = l3 ++ (e.l.take (k + 1)).flatMap attb) := Lib.hid (by rw [HN.out, ← List.append_assoc, HL5.out, attb, List.append_assoc])
      go_wp2_with fail
      refine ⟨⟨k + 1, by omega, rfl, by rw [← HF.out]; exact HO7.out, HK7.out, ?_⟩, by simp [intOf]; omega⟩
      rw [HN.out, ← List.append_assoc, HL5.out, List.length_append]
      omega
    · obtain rfl : k = e.l.length := by omega
      have hO := HO4.out
      have hl4 := HL4.out
      rw [List.take_length] at hO hl4
      generalize hq4 : l3 ++ e.l.flatMap attb = l4 at hO hl4
      have HL5 := Lib.hid hq4
      have HO5 := Lib.hid hO
      have HR5 := Lib.hid (HK4.out.obj _ _ _ _ HR3.out (by decide))
      have HK5 := Lib.hid (HK3.out.then HK4.out)
      have HB5 := Lib.hid (HB3.out.trans HK4.out.below)
      clear hq4 hO HO4 HL4 HK4 HR3 HK3 HB3 HO3
      have c6 := cell_of_row _ _ 6 _ _ _ HR5.out
      go_wp2_with fail
      refine (addnats_new [(e.t.length : Int)] HO5.out (by show l4.length + 9 * 1 ≤ 900000; omega) 1 rfl _ rfl).mono ?_
      rintro r w4 ⟨v4, rfl, hO, hK⟩
      rw [natw_one] at hO
      have hn2 := natw_len (e.t.length : Int)
      generalize natw (e.t.length : Int) = nt at hO HEV hn2
      have HO6 := Lib.hid hO
      have HR6 := Lib.hid (hK.obj _ _ _ _ HR5.out (by decide))
      have HK6 := Lib.hid (HK5.out.then hK)
      have HB6 := Lib.hid (HB5.out.trans hK.below)
      clear hO hK HR5 HO5 HK5 HB5 c6
      have c6 := cell_of_row _ _ 6 _ _ _ HR6.out
      have hlen6 : (l4 ++ nt).length ≤ 24100 := by rw [List.length_append]; omega
      generalize hq6 : l4 ++ nt = l6 at HO6 hlen6
      have HL6 := Lib.hid hq6
      clear hq6
      have HF : Hid (l ++ eventb e = l6 ++ e.t.flatMap stb) := Lib.hid (by rw [HEV.out, ← HL6.out, ← HL5.out, ← HL3.out]; simp only [List.append_assoc])
      clear HEV HL5 HL3 HL6
      go_wp2_with fail
      go_loopw [0, 53] (fun vv ii wr => ∃ k : Nat, k ≤ e.t.length ∧ ii = .int .i64 (k : Int) ∧ OwnB W0.heap.size wr vv (l6 ++ (e.t.take k).flatMap stb) ∧ Keep W0.heap.size w4 wr ∧ (l6 ++ (e.t.take k).flatMap stb).length ≤ 24100 + 18 * k) (fun _ ii _ => e.t.length - (intOf ii).toNat)
      case atStart => exact ⟨0, by omega, rfl, by simpa using HO6.out, Keep.refl _ _, by simpa using hlen6⟩
      case round =>
        obtain ⟨q, hq, rfl, hO, hK, hL⟩ := hrel
        clear c6
        have HO4 := Lib.hid hO
        have HK4 := Lib.hid hK
        have hL4 := hL
        clear hO hK hL
        by_cases hltq : q < e.t.length
        · obtain ⟨ga, oa, a, hA, ha, hc⟩ := HE.out.t.cells (HB6.out.trans HK4.out.below) hltq
          have HN := Lib.hid (flat_next (f := stb) ha)
          have HG := Lib.hid hc
          clear ha hc
          generalize hq4 : l6 ++ (e.t.take q).flatMap stb = l7 at HO4 hL4
          have HL5 := Lib.hid hq4
          clear hq4
          rw [hA]
          go_upto_region 13 with (first | (refine wpList_load_at rfl 68 _ rfl ga (oa + q * 2) a.cells _ rfl HG.out Tryz.underlying68 rfl st_size ?_; dsimp only [St.cells]))
          have hn2 := one_new wr (stbox a)
          have HN2 := Lib.hid (heap_alloc_new wr (stbox a))
          have HO5 := Lib.hid (HO4.out.later hn2)
          have HK5 := Lib.hid (HK4.out.then (Keep.later HO4.out.2 hn2))
          clear hn2 HO4 HK4 HG
          dsimp only [stbox] at HN2 HO5 HK5
          generalize wr.alloc _ = w5 at HN2 HO5 HK5 ⊢
          generalize wr.heap.size = gb at HN2 ⊢
          have q0 := cell_of_row _ _ 0 _ _ _ HN2.out
          have q1 := cell_of_row _ _ 1 _ _ _ HN2.out
          go_wp2_with fail
          refine (addnats_new [a.atom, a.n] HO5.out (by show l7.length + 9 * 2 ≤ 900000; omega) 2 rfl _ rfl).mono ?_
          rintro r w6 ⟨v6, rfl, hO, hK⟩
          have HO7 := Lib.hid hO
          have HK7 := Lib.hid (HK5.out.then hK)
          have e2 : [a.atom, a.n].flatMap natw = stb a := by simp [stb]
          have hsl : (stb a).length ≤ 18 := by rw [← e2]; exact natws_len [a.atom, a.n]
          rw [e2] at HO7
          clear hO hK q0 q1 HN2 HO5 HK5 e2
          go_wp2_with fail
          refine ⟨⟨q + 1, by omega, rfl, by rw [HN.out, ← List.append_assoc, HL5.out]; exact HO7.out, HK7.out, ?_⟩, by simp [intOf]; omega⟩
          rw [HN.out, ← List.append_assoc, HL5.out, List.length_append]
          omega
        · obtain rfl : q = e.t.length := by omega
          have hO := HO4.out
          rw [List.take_length] at hO
          have HO5 := Lib.hid hO
          have HK5 := Lib.hid (HK6.out.then HK4.out)
          clear hO HO4
          go_wp2_with fail
          go_ret
          exact ⟨_, rfl, by rw [HF.out]; exact HO5.out, HK5.out⟩
end Go.Proofs.YtgenmebmdpnjhaaGreat
