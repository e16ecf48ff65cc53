
/- PackTells: the walk. -/
import Derived.Test.YtkapdefghigdoaaHandBytes
import Derived.Test.YtkapdefghigdoaaPackCut
import Derived.Test.YtkapdefghigdoaaMath
import Derived.Test.YtkapdefghigdoaaPackFacts
import Derived.Test.YtkapdefghigdoaaRowBytes
import Derived.Deep.DeepCutAuto
import Derived.Test.YtkapdefghigdoaaMovers
namespace Go.Proofs.Ytkapdefghigdoaa
open Go.RowKit

/-- A slice of bytes that a call got or made: it reads so, and lies not in block g. -/
structure Byt (g : Nat) (w : World) (A : Option Addr) (n c : Nat) (l : List Nat) : Prop where
  rd : Rd w A n c l
  far : ∀ ad, A = some ad → ¬ ad.block = g
  cap : n ≤ c
theorem Byt.kept {g : Nat} {w w' : World} {A : Option Addr} {n c : Nat} {l : List Nat} (h : Byt g w A n c l) (k : Kept (· = g) w w') : Byt g w' A n c l := ⟨h.rd.kept k h.far, h.far, h.cap⟩
theorem Byt.later {g : Nat} {w w' : World} {A : Option Addr} {n c : Nat} {l : List Nat} (h : Byt g w A n c l) (k : Below w.heap.size w w') : Byt g w' A n c l := ⟨h.rd.later k, h.far, h.cap⟩
theorem Laid.byt {g : Nat} {W0 w : World} {v : Value} {l : List Nat} (h : Laid W0 w v l) (hg : g < W0.heap.size) : ∃ A c, v = .slice A l.length c ∧ Byt g w A l.length c l := by
  rcases h.1.2 with ⟨rfl, h0⟩ | ⟨b, cap, cur, fz, rfl, hb, hh, hfz, hn, hm, hs, ht⟩
  · exact ⟨none, 0, by rw [h0], ⟨rfl, .inl ⟨rfl, h0, rfl⟩⟩, (fun ad e => by cases e), by omega⟩
  · obtain ⟨A, c, e, hr⟩ := h.reads
    cases e
    exact ⟨_, _, rfl, hr, (fun ad e => by cases e; show ¬ b = g; omega), hn⟩

theorem Laid.alloc {W0 w : World} {v : Value} {l : List Nat} (h : Laid W0 w v l) (o : Obj) : Laid W0 (w.alloc o) v l := Lib.OwnBuf.alloc h o
theorem Laid.cap_le {W0 w : World} {A : Option Addr} {l : List Nat} {c : Nat} (h : Laid W0 w (.slice A l.length c) l) : l.length ≤ c := by
  rcases h.1.2 with ⟨e, h0⟩ | ⟨b, cap, cur, fz, e, hb, hh, hfz, hn, hm, hs, ht⟩
  · omega
  · cases e; exact hn
/-- The twelve bytes behind. -/
theorem rd_twelve (w : World) : Rd (w.alloc (.cells #[.int .u8 1, .int .u8 2, .int .u8 3, .int .u8 4, .int .u8 5, .int .u8 6, .int .u8 7, .int .u8 8, .int .u8 9, .int .u8 10, .int .u8 11, .int .u8 12] 5)) (some ⟨w.heap.size, 0, none⟩) 12 12 [1, 2, 3, 4, 5, 6, 7, 8, 9, 10, 11, 12] := by
  refine ⟨rfl, .inr ⟨w.heap.size, 0, rfl, fun j u hj => ?_⟩⟩
  rw [Nat.zero_add, World.cell?_alloc_new]
  have hl : j < 12 := (List.getElem?_eq_some_iff.1 hj).1
  match j, hl with
  | 0, _ | 1, _ | 2, _ | 3, _ | 4, _ | 5, _ | 6, _ | 7, _ | 8, _ | 9, _ | 10, _ | 11, _ => cases hj; rfl

theorem twelve_at (bs : List Nat) {k : Nat} (hk : k < 12) : (bs ++ [1, 2, 3, 4, 5, 6, 7, 8, 9, 10, 11, 12]).getD (bs.length + k) 0 = k + 1 := by
  have e : (bs ++ [1, 2, 3, 4, 5, 6, 7, 8, 9, 10, 11, 12])[bs.length + k]? = [1, 2, 3, 4, 5, 6, 7, 8, 9, 10, 11, 12][k]? := by
    rw [List.getElem?_append_right (by omega)]
    simp
  rw [List.getD_eq_getElem?_getD, e]
  match k, hk with
  | 0, _ | 1, _ | 2, _ | 3, _ | 4, _ | 5, _ | 6, _ | 7, _ | 8, _ | 9, _ | 10, _ | 11, _ => rfl
/-- Where a row is behind a call. -/
theorem rd_go {W a b : World} {A : Option Addr} {n c : Nat} {l : List Nat} (h : Hid (Rd W A n c l)) (k : Hid (Below W.heap.size W a)) (e : b = a ∨ b = a.drew := by first | exact .inl rfl | exact .inr rfl) : Rd b A n c l := by
  rcases e with rfl | rfl
  · exact h.out.later k.out
  · exact h.out.later ⟨k.out.os, k.out.tape, k.out.output, k.out.size, k.out.block⟩
theorem bel_go {W a b w' : World} (k : Hid (Below W.heap.size W a)) (h : Below b.heap.size b w') (e : b = a ∨ b = a.drew := by first | exact .inl rfl | exact .inr rfl) : Hid (Below W.heap.size W w') := by
  rcases e with rfl | rfl
  · exact k.out.trans ⟨h.os, h.tape, h.output, h.size, fun i hi => h.block i (Nat.lt_of_lt_of_le hi k.out.size)⟩
  · exact k.out.trans ⟨h.os, h.tape, h.output, h.size, fun i hi => h.block i (Nat.lt_of_lt_of_le hi k.out.size)⟩

set_option maxRecDepth 100000 in
set_option maxHeartbeats 8000000 in
theorem ptells_walk (A : Option Addr) (n c : Nat) (l : List Nat) (m i : Int) (x : Nat) (s : ByteArray) (B : Option Addr) (len cap : Nat)
    (m1 : -9223372036854775808 ≤ m) (m2 : m ≤ 9223372036854775807) (_ : -9223372036854775808 ≤ i) (_ : i ≤ 9223372036854775807) (hx : x < 2 ^ 64) (hs : s.size ≤ 140737488351232) (w : World) (hr : Rd w A n c l) (hc : n ≤ c) (hn : n ≤ 9223372036854775807) (hd : Draws w.heap.size w B len) :
    Calls Try.prog 4 #[.slice A n c, .int .i64 m, .int .i64 i, .float .f64 x, .string s, .slice B len cap] w fun e w' => e = .returned (.bool true) ∧ Below w.heap.size w w' := by
  have hF0 := Lib.hid (feed_new (cap := cap) hd 36)
  have HR := Lib.hid (hr.later (one_more w (.cells #[.slice B len cap, .int .i64 0] 36)))
  clear hd hr
  go_enter Try.func4, Try.ntmps4
  go_wp2_with fail
  have hB0 : Below w.heap.size w (w.alloc (.cells #[.slice B len cap, .int .i64 0] 36)) := one_more w _
  have hz : w.heap.size < (w.alloc (.cells #[.slice B len cap, .int .i64 0] 36)).heap.size := by simp
  generalize w.alloc (.cells #[.slice B len cap, .int .i64 0] 36) = W at hF0 HR hB0 hz ⊢
  refine (few_any 30 (by omega) HR.out hc hn).mono ?_
  rintro e w1 ⟨v1, rfl, hl1⟩
  obtain ⟨A1, c1, rfl, hb1⟩ := hl1.byt hz
  have HB1 := Lib.hid hb1
  have HF1 := Lib.hid (hF0.out.below hl1.below)
  have HW1 : Hid (Below w.heap.size w w1) := hB0.trans ⟨hl1.below.os, hl1.below.tape, hl1.below.output, hl1.below.size, fun k hk => hl1.below.block k (by omega)⟩
  have hlen : (l.take 30).length ≤ 30 := by rw [List.length_take]; omega
  generalize l.take 30 = bs at HB1 hlen ⊢
  clear hl1 hb1 hB0 hF0 HR
  go_wp2_with fail
  refine (short_any s 300 (by omega) hs _).mono ?_
  rintro e w2 ⟨t, rfl, ht, rfl⟩
  go_wp2_with fail
  refine (next_any 2 (by omega) (by omega) _ (by omega) HF1.out).mono ?_
  rintro e w2 ⟨k, hk, rfl, hF2, hK2, hs2⟩
  have HF2 := Lib.hid hF2
  have HB2 := Lib.hid (HB1.out.kept hK2)
  have HW2 : Hid (Below w.heap.size w w2) := HW1.out.trans (hK2.below HW1.out.size (fun i hi e => by omega))
  clear hF2 hK2 hs2 HF1 HB1 HW1
  have hk2 : k = 0 ∨ k = 1 := by omega
  clear hk
  go_upto_if 26 with fail
  go_cut [3] (fun s3 wx => ∃ x : Nat, x < 2 ^ 64 ∧ s3 = .float .f64 x ∧ IsFeed w.heap.size wx w.heap.size 2 ∧ Byt w.heap.size wx A1 bs.length c1 bs ∧ Below w.heap.size w wx)
  case first =>
    rcases hk2 with rfl | rfl
    · go_wp2_with fail
      go_meet
      exact ⟨x, hx, rfl, HF2.out.more (by omega), HB2.out, HW2.out⟩
    · go_wp2_with fail
      refine (feedfloat_any _ (by omega) HF2.out).mono ?_
      rintro e w3 ⟨y, hy, rfl, hF3, hK3⟩
      have H3 : Hid (IsFeed w.heap.size w3 w.heap.size 2 ∧ Byt w.heap.size w3 A1 bs.length c1 bs ∧ Below w.heap.size w w3) := ⟨hF3, HB2.out.kept hK3, HW2.out.trans (hK3.below HW2.out.size (fun i hi e => by omega))⟩
      clear hF3 hK3
      go_wp2_with fail
      go_meet
      exact ⟨y, hy, rfl, H3.out.1, H3.out.2.1, H3.out.2.2⟩
  case rest =>
    clear hx
    obtain ⟨x, hx, rfl, hF, hB, hW⟩ := hcut
    have HF3 := Lib.hid hF
    have HB3 := Lib.hid hB
    have HW3 := Lib.hid hW
    clear hF hB hW HF2 HB2 HW2 hk2
    go_wp2_with fail
    refine (next_any 3 (by omega) (by omega) _ (by omega) HF3.out).mono ?_
    rintro e w3 ⟨k, hk, rfl, hF4, hK4, hs4⟩
    have HF4 := Lib.hid hF4
    have HB4 := Lib.hid (HB3.out.kept hK4)
    have HW4 : Hid (Below w.heap.size w w3) := HW3.out.trans (hK4.below HW3.out.size (fun i hi e => by omega))
    clear hF4 hK4 hs4 HF3 HB3 HW3
    go_upto_if 31 with fail
    go_cut [1] (fun s1 wx => ∃ m : Int, (-9223372036854775808 ≤ m ∧ m ≤ 9223372036854775807) ∧ s1 = .int .i64 m ∧ Byt w.heap.size wx A1 bs.length c1 bs ∧ Below w.heap.size w wx)
    case first =>
      by_cases h0 : k = 0
      · subst h0
        go_wp2_with fail
        refine (next_any 5 (by omega) (by omega) _ (by omega) HF4.out).mono ?_
        rintro e w4 ⟨k, hk, rfl, hF5, hK5, hs5⟩
        have H5 : Hid (Byt w.heap.size w4 A1 bs.length c1 bs ∧ Below w.heap.size w w4) := ⟨HB4.out.kept hK5, HW4.out.trans (hK5.below HW4.out.size (fun i hi e => by omega))⟩
        clear hF5 hK5 hs5
        have hix : ∀ (k : Nat) (W : World), k < 5 → ∃ m : Int, (-9223372036854775808 ≤ m ∧ m ≤ 9223372036854775807) ∧ (Instr.index 40 (.agg #[.int .i64 4611686018427387904, .int .i64 4611686018427387905, .int .i64 127, .int .i64 128, .int .i64 (-1)]) (.int .i64 (k : Int))).run Try.prog W = .ok (.int .i64 m) W := by
          intro k W hk
          match k, hk with
          | 0, _ => exact ⟨4611686018427387904, by omega, by kernel_rfl⟩
          | 1, _ => exact ⟨4611686018427387905, by omega, by kernel_rfl⟩
          | 2, _ => exact ⟨127, by omega, by kernel_rfl⟩
          | 3, _ => exact ⟨128, by omega, by kernel_rfl⟩
          | 4, _ => exact ⟨-1, by omega, by kernel_rfl⟩
        obtain ⟨m5, hm5, hix5⟩ := hix k w4 (by omega)
        clear hix
        go_wp2_with fail
        go_meet
        exact ⟨m5, hm5, rfl, H5.out.1, H5.out.2⟩
      · have h0' : (k == 0) = false := by simpa using h0
        go_wp2_with fail
        go_meet
        exact ⟨m, ⟨m1, m2⟩, rfl, HB4.out, HW4.out⟩
    case rest =>
      clear m1 m2
      obtain ⟨m, ⟨m1, m2⟩, rfl, hB, hW⟩ := hcut
      have HB5 := Lib.hid hB
      have HW5 := Lib.hid hW
      have hcap5 := hB.cap
      clear hB hW HB4 HW4 HF4 hk
      go_wp2_with fail
      refine (few_any 30 (by omega) HB5.out.rd hcap5 (by omega)).mono ?_
      rintro e w4 ⟨v4, rfl, hl4⟩
      have HL4 := Lib.hid hl4
      have e30 : bs.take 30 = bs := List.take_of_length_le hlen
      rw [e30] at HL4
      clear hl4 e30
      go_upto_region 9 with (first | (at_builtin; refine wpList_lay rfl _ _ rfl _ bs rfl (HL4.out.alloc _) _ 12 12 _ rfl (rd_twelve _) (by omega) ?_; intro v5 w5 hl5; have HL5 := Lib.hid hl5; clear hl5))
      obtain ⟨A5, c5, e5, hr5⟩ := HL5.out.reads
      subst e5
      have hc5 : (bs ++ [1, 2, 3, 4, 5, 6, 7, 8, 9, 10, 11, 12]).length ≤ c5 := HL5.out.cap_le
      have hl5 : (bs ++ [1, 2, 3, 4, 5, 6, 7, 8, 9, 10, 11, 12]).length = bs.length + 12 := by simp
      have HFull := Lib.hid hr5
      have HOwn : Hid (Rd w5 A5 bs.length c5 bs) := by
        have := hr5.take (k := bs.length) (by omega)
        rw [List.take_left] at this
        exact this
      have HBs : Hid (Rd w5 A1 bs.length c1 bs) := HB5.out.rd.later HL5.out.below
      have HX : Hid (Below w5.heap.size w5 w5) := Below.refl _ _
      have HW6 : Hid (Below w.heap.size w w5) := HW5.out.trans ⟨HL5.out.below.os, HL5.out.below.tape, HL5.out.below.output, HL5.out.below.size, fun i hi => HL5.out.below.block i (Nat.lt_of_lt_of_le hi HW5.out.size)⟩
      clear hr5 HL4 HL5 HB5 HW5
      rw [hl5] at HFull hc5 ⊢
      clear hl5
      go_upto_region 10 with fail
      go_cut [89] (fun s89 wx => s89 = .bool false ∧ Below w5.heap.size w5 wx)
      case first =>
        refine any_begin (by kernel_rfl) ?_
        refine any_call (i := 0) (o := { dst := some 44, op := Op.call { callee := Callee.value (Operand.func 24), args := #[], argTypes := #[] }, type := 4, pos := "law.go:45", after := #[], guard := none }) rfl (by kernel_rfl) (by rfl) (fun K hK => ?_)
        go_simp
        refine (known_any _).mono ?_
        rintro e w9 ⟨rfl, hb9⟩
        refine hK.out _ _ hb9 ?_
        replace HX := bel_go HX hb9
        clear hb9 hK K
        try simp only [Act.put, List.setIfInBounds_toArray, List.set_cons_zero, List.set_cons_succ]
        refine any_read (i := 1) (o := { dst := some 45, op := Op.unOp UnOp.not 4 (Operand.tmp 44), type := 4, pos := "law.go:45", after := #[{ on := 0, ground := Ground.data }], guard := none }) (v := ?_) rfl (by kernel_rfl) (by kernel_rfl) (by kernel_rfl) (fun _ _ _ h => h) (by rfl) ?_ ?_
        rotate_left
        · (intro x; go_simp; try with_reducible rfl)
        try simp only [Act.put, List.setIfInBounds_toArray, List.set_cons_zero, List.set_cons_succ]
        refine any_read (i := 2) (o := { dst := some 46, op := Op.move (Operand.tmp 45), type := 4, pos := "law.go:45", after := #[{ on := 1, ground := Ground.data }, { on := 0, ground := Ground.chain }], guard := none }) (v := ?_) rfl (by kernel_rfl) (by kernel_rfl) (by kernel_rfl) (fun _ _ _ h => h) (by rfl) ?_ ?_
        rotate_left
        · (intro x; go_simp; try with_reducible rfl)
        try simp only [Act.put, List.setIfInBounds_toArray, List.set_cons_zero, List.set_cons_succ]
        refine any_read (i := 3) (o := { dst := some 47, op := Op.move (Operand.tmp 15), type := 24, pos := "law.go:45", after := #[{ on := 2, ground := Ground.guard }], guard := some (2, false) }) (v := ?_) rfl (by kernel_rfl) (by kernel_rfl) (by kernel_rfl) (fun _ _ _ h => h) (by rfl) ?_ ?_
        rotate_left
        · (intro x; go_simp; try with_reducible rfl)
        try simp only [Act.put, List.setIfInBounds_toArray, List.set_cons_zero, List.set_cons_succ]
        refine any_read (i := 4) (o := { dst := some 48, op := Op.move (Operand.tmp 1), type := 3, pos := "law.go:45", after := #[{ on := 2, ground := Ground.guard }], guard := some (2, false) }) (v := ?_) rfl (by kernel_rfl) (by kernel_rfl) (by kernel_rfl) (fun _ _ _ h => h) (by rfl) ?_ ?_
        rotate_left
        · (intro x; go_simp; try with_reducible rfl)
        try simp only [Act.put, List.setIfInBounds_toArray, List.set_cons_zero, List.set_cons_succ]
        refine any_read (i := 7) (o := { dst := some 51, op := Op.move (Operand.tmp 0), type := 24, pos := "law.go:45", after := #[{ on := 2, ground := Ground.guard }], guard := some (2, false) }) (v := ?_) rfl (by kernel_rfl) (by kernel_rfl) (by kernel_rfl) (fun _ _ _ h => h) (by rfl) ?_ ?_
        rotate_left
        · (intro x; go_simp; try with_reducible rfl)
        try simp only [Act.put, List.setIfInBounds_toArray, List.set_cons_zero, List.set_cons_succ]
        refine any_read (i := 8) (o := { dst := some 52, op := Op.move (Operand.tmp 1), type := 3, pos := "law.go:45", after := #[{ on := 2, ground := Ground.guard }], guard := some (2, false) }) (v := ?_) rfl (by kernel_rfl) (by kernel_rfl) (by kernel_rfl) (fun _ _ _ h => h) (by rfl) ?_ ?_
        rotate_left
        · (intro x; go_simp; try with_reducible rfl)
        try simp only [Act.put, List.setIfInBounds_toArray, List.set_cons_zero, List.set_cons_succ]
        refine any_call (i := 5) (o := { dst := some 49, op := Op.call { callee := Callee.value (Operand.func 19), args := #[Operand.tmp 47, Operand.tmp 48], argTypes := #[24, 3] }, type := 24, pos := "law.go:45", after := #[{ on := 3, ground := Ground.data }, { on := 4, ground := Ground.data }, { on := 2, ground := Ground.chain }, { on := 2, ground := Ground.guard }], guard := some (2, false) }) rfl (by kernel_rfl) (by rfl) (fun K hK => ?_)
        go_simp
        refine (pnat_any m (rd_go HOwn HX) (by omega)).mono ?_
        rintro e w10 ⟨v10, rfl, hl10⟩
        obtain ⟨A10, n10, c10, rfl, hr10⟩ := hl10.reads'
        refine hK.out _ _ hl10.below ?_
        have hcv10 := fun x : Later w10 => conv_all (hr10.later x.below)
        replace HX := bel_go HX hl10.below
        clear hl10 hr10 hK K
        try simp only [Act.put, List.setIfInBounds_toArray, List.set_cons_zero, List.set_cons_succ]
        refine any_read (i := 6) (o := { dst := some 50, op := Op.convert 24 9 (Operand.tmp 49), type := 9, pos := "law.go:45", after := #[{ on := 5, ground := Ground.data }, { on := 2, ground := Ground.guard }], guard := some (2, false) }) (v := ?_) rfl (by kernel_rfl) (by kernel_rfl) (by kernel_rfl) (fun _ _ _ h => h) (by rfl) ?_ ?_
        rotate_left
        · (intro x; go_simp; try with_reducible rfl)
        try simp only [Act.put, List.setIfInBounds_toArray, List.set_cons_zero, List.set_cons_succ]
        refine any_call (i := 9) (o := { dst := some 53, op := Op.call { callee := Callee.value (Operand.func 25), args := #[Operand.tmp 51, Operand.tmp 52], argTypes := #[24, 3] }, type := 24, pos := "law.go:45", after := #[{ on := 7, ground := Ground.data }, { on := 8, ground := Ground.data }, { on := 5, ground := Ground.chain }, { on := 2, ground := Ground.guard }], guard := some (2, false) }) rfl (by kernel_rfl) (by rfl) (fun K hK => ?_)
        go_simp
        refine (rnat_any m (rd_go HBs HX) (by omega)).mono ?_
        rintro e w11 ⟨v11, rfl, hl11⟩
        obtain ⟨A11, n11, c11, rfl, hr11⟩ := hl11.reads'
        refine hK.out _ _ hl11.below ?_
        have hcv11 := fun x : Later w11 => conv_all (hr11.later x.below)
        replace HX := bel_go HX hl11.below
        clear hl11 hr11 hK K
        try simp only [Act.put, List.setIfInBounds_toArray, List.set_cons_zero, List.set_cons_succ]
        refine any_read (i := 10) (o := { dst := some 54, op := Op.convert 24 9 (Operand.tmp 53), type := 9, pos := "law.go:45", after := #[{ on := 9, ground := Ground.data }, { on := 2, ground := Ground.guard }], guard := some (2, false) }) (v := ?_) rfl (by kernel_rfl) (by kernel_rfl) (by kernel_rfl) (fun _ _ _ h => h) (by rfl) ?_ ?_
        rotate_left
        · (intro x; go_simp; try with_reducible rfl)
        try simp only [Act.put, List.setIfInBounds_toArray, List.set_cons_zero, List.set_cons_succ]
        refine any_read (i := 11) (o := { dst := some 55, op := Op.binOp BinOp.neq 9 (Operand.tmp 50) (Operand.tmp 54) 9, type := 4, pos := "law.go:45", after := #[{ on := 6, ground := Ground.data }, { on := 10, ground := Ground.data }, { on := 2, ground := Ground.guard }], guard := some (2, false) }) (v := ?_) rfl (by kernel_rfl) (by kernel_rfl) (by kernel_rfl) (fun _ _ _ h => h) (by rfl) ?_ ?_
        rotate_left
        · (intro x; go_simp; try with_reducible rfl)
        try simp only [Act.put, List.setIfInBounds_toArray, List.set_cons_zero, List.set_cons_succ]
        refine any_read (i := 12) (o := { dst := some 56, op := Op.pick (Operand.tmp 46) (Operand.const (Value.bool true)) (Operand.tmp 55), type := 4, pos := "law.go:45", after := #[{ on := 2, ground := Ground.data }, { on := 11, ground := Ground.data }], guard := none }) (v := ?_) rfl (by kernel_rfl) (by kernel_rfl) (by kernel_rfl) (fun _ _ _ h => h) (by rfl) ?_ ?_
        rotate_left
        · (intro x; go_simp; try with_reducible rfl)
        try simp only [Act.put, List.setIfInBounds_toArray, List.set_cons_zero, List.set_cons_succ]
        refine any_read (i := 13) (o := { dst := some 57, op := Op.move (Operand.tmp 56), type := 4, pos := "law.go:45", after := #[{ on := 12, ground := Ground.data }, { on := 9, ground := Ground.chain }], guard := none }) (v := ?_) rfl (by kernel_rfl) (by kernel_rfl) (by kernel_rfl) (fun _ _ _ h => h) (by rfl) ?_ ?_
        rotate_left
        · (intro x; go_simp; try with_reducible rfl)
        try simp only [Act.put, List.setIfInBounds_toArray, List.set_cons_zero, List.set_cons_succ]
        refine any_read (i := 14) (o := { dst := some 58, op := Op.move (Operand.tmp 15), type := 24, pos := "law.go:45", after := #[{ on := 13, ground := Ground.guard }], guard := some (13, false) }) (v := ?_) rfl (by kernel_rfl) (by kernel_rfl) (by kernel_rfl) (fun _ _ _ h => h) (by rfl) ?_ ?_
        rotate_left
        · (intro x; go_simp; try with_reducible rfl)
        try simp only [Act.put, List.setIfInBounds_toArray, List.set_cons_zero, List.set_cons_succ]
        refine any_read (i := 15) (o := { dst := some 59, op := Op.move (Operand.tmp 2), type := 2, pos := "law.go:45", after := #[{ on := 13, ground := Ground.guard }], guard := some (13, false) }) (v := ?_) rfl (by kernel_rfl) (by kernel_rfl) (by kernel_rfl) (fun _ _ _ h => h) (by rfl) ?_ ?_
        rotate_left
        · (intro x; go_simp; try with_reducible rfl)
        try simp only [Act.put, List.setIfInBounds_toArray, List.set_cons_zero, List.set_cons_succ]
        refine any_read (i := 18) (o := { dst := some 62, op := Op.move (Operand.tmp 0), type := 24, pos := "law.go:45", after := #[{ on := 13, ground := Ground.guard }], guard := some (13, false) }) (v := ?_) rfl (by kernel_rfl) (by kernel_rfl) (by kernel_rfl) (fun _ _ _ h => h) (by rfl) ?_ ?_
        rotate_left
        · (intro x; go_simp; try with_reducible rfl)
        try simp only [Act.put, List.setIfInBounds_toArray, List.set_cons_zero, List.set_cons_succ]
        refine any_read (i := 19) (o := { dst := some 63, op := Op.move (Operand.tmp 2), type := 2, pos := "law.go:45", after := #[{ on := 13, ground := Ground.guard }], guard := some (13, false) }) (v := ?_) rfl (by kernel_rfl) (by kernel_rfl) (by kernel_rfl) (fun _ _ _ h => h) (by rfl) ?_ ?_
        rotate_left
        · (intro x; go_simp; try with_reducible rfl)
        try simp only [Act.put, List.setIfInBounds_toArray, List.set_cons_zero, List.set_cons_succ]
        refine any_call (i := 16) (o := { dst := some 60, op := Op.call { callee := Callee.value (Operand.func 26), args := #[Operand.tmp 58, Operand.tmp 59], argTypes := #[24, 2] }, type := 24, pos := "law.go:45", after := #[{ on := 14, ground := Ground.data }, { on := 15, ground := Ground.data }, { on := 13, ground := Ground.chain }, { on := 13, ground := Ground.guard }], guard := some (13, false) }) rfl (by kernel_rfl) (by rfl) (fun K hK => ?_)
        go_simp
        refine (pint_any i (rd_go HOwn HX) (by omega)).mono ?_
        rintro e w20 ⟨v20, rfl, hl20⟩
        obtain ⟨A20, n20, c20, rfl, hr20⟩ := hl20.reads'
        refine hK.out _ _ hl20.below ?_
        have hcv20 := fun x : Later w20 => conv_all (hr20.later x.below)
        replace HX := bel_go HX hl20.below
        clear hl20 hr20 hK K
        try simp only [Act.put, List.setIfInBounds_toArray, List.set_cons_zero, List.set_cons_succ]
        refine any_read (i := 17) (o := { dst := some 61, op := Op.convert 24 9 (Operand.tmp 60), type := 9, pos := "law.go:45", after := #[{ on := 16, ground := Ground.data }, { on := 13, ground := Ground.guard }], guard := some (13, false) }) (v := ?_) rfl (by kernel_rfl) (by kernel_rfl) (by kernel_rfl) (fun _ _ _ h => h) (by rfl) ?_ ?_
        rotate_left
        · (intro x; go_simp; try with_reducible rfl)
        try simp only [Act.put, List.setIfInBounds_toArray, List.set_cons_zero, List.set_cons_succ]
        refine any_call (i := 20) (o := { dst := some 64, op := Op.call { callee := Callee.value (Operand.func 27), args := #[Operand.tmp 62, Operand.tmp 63], argTypes := #[24, 2] }, type := 24, pos := "law.go:45", after := #[{ on := 18, ground := Ground.data }, { on := 19, ground := Ground.data }, { on := 16, ground := Ground.chain }, { on := 13, ground := Ground.guard }], guard := some (13, false) }) rfl (by kernel_rfl) (by rfl) (fun K hK => ?_)
        go_simp
        refine (rint_any i (rd_go HBs HX) (by omega)).mono ?_
        rintro e w21 ⟨v21, rfl, hl21⟩
        obtain ⟨A21, n21, c21, rfl, hr21⟩ := hl21.reads'
        refine hK.out _ _ hl21.below ?_
        have hcv21 := fun x : Later w21 => conv_all (hr21.later x.below)
        replace HX := bel_go HX hl21.below
        clear hl21 hr21 hK K
        try simp only [Act.put, List.setIfInBounds_toArray, List.set_cons_zero, List.set_cons_succ]
        refine any_read (i := 21) (o := { dst := some 65, op := Op.convert 24 9 (Operand.tmp 64), type := 9, pos := "law.go:45", after := #[{ on := 20, ground := Ground.data }, { on := 13, ground := Ground.guard }], guard := some (13, false) }) (v := ?_) rfl (by kernel_rfl) (by kernel_rfl) (by kernel_rfl) (fun _ _ _ h => h) (by rfl) ?_ ?_
        rotate_left
        · (intro x; go_simp; try with_reducible rfl)
        try simp only [Act.put, List.setIfInBounds_toArray, List.set_cons_zero, List.set_cons_succ]
        refine any_read (i := 22) (o := { dst := some 66, op := Op.binOp BinOp.neq 9 (Operand.tmp 61) (Operand.tmp 65) 9, type := 4, pos := "law.go:45", after := #[{ on := 17, ground := Ground.data }, { on := 21, ground := Ground.data }, { on := 13, ground := Ground.guard }], guard := some (13, false) }) (v := ?_) rfl (by kernel_rfl) (by kernel_rfl) (by kernel_rfl) (fun _ _ _ h => h) (by rfl) ?_ ?_
        rotate_left
        · (intro x; go_simp; try with_reducible rfl)
        try simp only [Act.put, List.setIfInBounds_toArray, List.set_cons_zero, List.set_cons_succ]
        refine any_read (i := 23) (o := { dst := some 67, op := Op.pick (Operand.tmp 57) (Operand.const (Value.bool true)) (Operand.tmp 66), type := 4, pos := "law.go:45", after := #[{ on := 13, ground := Ground.data }, { on := 22, ground := Ground.data }], guard := none }) (v := ?_) rfl (by kernel_rfl) (by kernel_rfl) (by kernel_rfl) (fun _ _ _ h => h) (by rfl) ?_ ?_
        rotate_left
        · (intro x; go_simp; try with_reducible rfl)
        try simp only [Act.put, List.setIfInBounds_toArray, List.set_cons_zero, List.set_cons_succ]
        refine any_read (i := 24) (o := { dst := some 68, op := Op.move (Operand.tmp 67), type := 4, pos := "law.go:45", after := #[{ on := 23, ground := Ground.data }, { on := 20, ground := Ground.chain }], guard := none }) (v := ?_) rfl (by kernel_rfl) (by kernel_rfl) (by kernel_rfl) (fun _ _ _ h => h) (by rfl) ?_ ?_
        rotate_left
        · (intro x; go_simp; try with_reducible rfl)
        try simp only [Act.put, List.setIfInBounds_toArray, List.set_cons_zero, List.set_cons_succ]
        refine any_read (i := 25) (o := { dst := some 69, op := Op.move (Operand.tmp 15), type := 24, pos := "law.go:45", after := #[{ on := 24, ground := Ground.guard }], guard := some (24, false) }) (v := ?_) rfl (by kernel_rfl) (by kernel_rfl) (by kernel_rfl) (fun _ _ _ h => h) (by rfl) ?_ ?_
        rotate_left
        · (intro x; go_simp; try with_reducible rfl)
        try simp only [Act.put, List.setIfInBounds_toArray, List.set_cons_zero, List.set_cons_succ]
        refine any_read (i := 26) (o := { dst := some 70, op := Op.move (Operand.tmp 3), type := 32, pos := "law.go:45", after := #[{ on := 24, ground := Ground.guard }], guard := some (24, false) }) (v := ?_) rfl (by kernel_rfl) (by kernel_rfl) (by kernel_rfl) (fun _ _ _ h => h) (by rfl) ?_ ?_
        rotate_left
        · (intro x; go_simp; try with_reducible rfl)
        try simp only [Act.put, List.setIfInBounds_toArray, List.set_cons_zero, List.set_cons_succ]
        refine any_read (i := 29) (o := { dst := some 73, op := Op.move (Operand.tmp 0), type := 24, pos := "law.go:45", after := #[{ on := 24, ground := Ground.guard }], guard := some (24, false) }) (v := ?_) rfl (by kernel_rfl) (by kernel_rfl) (by kernel_rfl) (fun _ _ _ h => h) (by rfl) ?_ ?_
        rotate_left
        · (intro x; go_simp; try with_reducible rfl)
        try simp only [Act.put, List.setIfInBounds_toArray, List.set_cons_zero, List.set_cons_succ]
        refine any_read (i := 30) (o := { dst := some 74, op := Op.move (Operand.tmp 3), type := 32, pos := "law.go:45", after := #[{ on := 24, ground := Ground.guard }], guard := some (24, false) }) (v := ?_) rfl (by kernel_rfl) (by kernel_rfl) (by kernel_rfl) (fun _ _ _ h => h) (by rfl) ?_ ?_
        rotate_left
        · (intro x; go_simp; try with_reducible rfl)
        try simp only [Act.put, List.setIfInBounds_toArray, List.set_cons_zero, List.set_cons_succ]
        refine any_call (i := 27) (o := { dst := some 71, op := Op.call { callee := Callee.value (Operand.func 28), args := #[Operand.tmp 69, Operand.tmp 70], argTypes := #[24, 32] }, type := 24, pos := "law.go:45", after := #[{ on := 25, ground := Ground.data }, { on := 26, ground := Ground.data }, { on := 24, ground := Ground.chain }, { on := 24, ground := Ground.guard }], guard := some (24, false) }) rfl (by kernel_rfl) (by rfl) (fun K hK => ?_)
        go_simp
        refine (pfloat_any x hx (rd_go HOwn HX) (by omega)).mono ?_
        rintro e w30 ⟨v30, rfl, hl30⟩
        obtain ⟨A30, n30, c30, rfl, hr30⟩ := hl30.reads'
        refine hK.out _ _ hl30.below ?_
        have hcv30 := fun x : Later w30 => conv_all (hr30.later x.below)
        replace HX := bel_go HX hl30.below
        clear hl30 hr30 hK K
        try simp only [Act.put, List.setIfInBounds_toArray, List.set_cons_zero, List.set_cons_succ]
        refine any_read (i := 28) (o := { dst := some 72, op := Op.convert 24 9 (Operand.tmp 71), type := 9, pos := "law.go:45", after := #[{ on := 27, ground := Ground.data }, { on := 24, ground := Ground.guard }], guard := some (24, false) }) (v := ?_) rfl (by kernel_rfl) (by kernel_rfl) (by kernel_rfl) (fun _ _ _ h => h) (by rfl) ?_ ?_
        rotate_left
        · (intro x; go_simp; try with_reducible rfl)
        try simp only [Act.put, List.setIfInBounds_toArray, List.set_cons_zero, List.set_cons_succ]
        refine any_call (i := 31) (o := { dst := some 75, op := Op.call { callee := Callee.value (Operand.func 29), args := #[Operand.tmp 73, Operand.tmp 74], argTypes := #[24, 32] }, type := 24, pos := "law.go:45", after := #[{ on := 29, ground := Ground.data }, { on := 30, ground := Ground.data }, { on := 27, ground := Ground.chain }, { on := 24, ground := Ground.guard }], guard := some (24, false) }) rfl (by kernel_rfl) (by rfl) (fun K hK => ?_)
        go_simp
        refine (rfloat_any x hx (rd_go HBs HX) (by omega)).mono ?_
        rintro e w31 ⟨v31, rfl, hl31⟩
        obtain ⟨A31, n31, c31, rfl, hr31⟩ := hl31.reads'
        refine hK.out _ _ hl31.below ?_
        have hcv31 := fun x : Later w31 => conv_all (hr31.later x.below)
        replace HX := bel_go HX hl31.below
        clear hl31 hr31 hK K
        try simp only [Act.put, List.setIfInBounds_toArray, List.set_cons_zero, List.set_cons_succ]
        refine any_read (i := 32) (o := { dst := some 76, op := Op.convert 24 9 (Operand.tmp 75), type := 9, pos := "law.go:45", after := #[{ on := 31, ground := Ground.data }, { on := 24, ground := Ground.guard }], guard := some (24, false) }) (v := ?_) rfl (by kernel_rfl) (by kernel_rfl) (by kernel_rfl) (fun _ _ _ h => h) (by rfl) ?_ ?_
        rotate_left
        · (intro x; go_simp; try with_reducible rfl)
        try simp only [Act.put, List.setIfInBounds_toArray, List.set_cons_zero, List.set_cons_succ]
        refine any_read (i := 33) (o := { dst := some 77, op := Op.binOp BinOp.neq 9 (Operand.tmp 72) (Operand.tmp 76) 9, type := 4, pos := "law.go:45", after := #[{ on := 28, ground := Ground.data }, { on := 32, ground := Ground.data }, { on := 24, ground := Ground.guard }], guard := some (24, false) }) (v := ?_) rfl (by kernel_rfl) (by kernel_rfl) (by kernel_rfl) (fun _ _ _ h => h) (by rfl) ?_ ?_
        rotate_left
        · (intro x; go_simp; try with_reducible rfl)
        try simp only [Act.put, List.setIfInBounds_toArray, List.set_cons_zero, List.set_cons_succ]
        refine any_read (i := 34) (o := { dst := some 78, op := Op.pick (Operand.tmp 68) (Operand.const (Value.bool true)) (Operand.tmp 77), type := 4, pos := "law.go:45", after := #[{ on := 24, ground := Ground.data }, { on := 33, ground := Ground.data }], guard := none }) (v := ?_) rfl (by kernel_rfl) (by kernel_rfl) (by kernel_rfl) (fun _ _ _ h => h) (by rfl) ?_ ?_
        rotate_left
        · (intro x; go_simp; try with_reducible rfl)
        try simp only [Act.put, List.setIfInBounds_toArray, List.set_cons_zero, List.set_cons_succ]
        refine any_read (i := 35) (o := { dst := some 79, op := Op.move (Operand.tmp 78), type := 4, pos := "law.go:45", after := #[{ on := 34, ground := Ground.data }, { on := 31, ground := Ground.chain }], guard := none }) (v := ?_) rfl (by kernel_rfl) (by kernel_rfl) (by kernel_rfl) (fun _ _ _ h => h) (by rfl) ?_ ?_
        rotate_left
        · (intro x; go_simp; try with_reducible rfl)
        try simp only [Act.put, List.setIfInBounds_toArray, List.set_cons_zero, List.set_cons_succ]
        refine any_read (i := 36) (o := { dst := some 80, op := Op.move (Operand.tmp 15), type := 24, pos := "law.go:45", after := #[{ on := 35, ground := Ground.guard }], guard := some (35, false) }) (v := ?_) rfl (by kernel_rfl) (by kernel_rfl) (by kernel_rfl) (fun _ _ _ h => h) (by rfl) ?_ ?_
        rotate_left
        · (intro x; go_simp; try with_reducible rfl)
        try simp only [Act.put, List.setIfInBounds_toArray, List.set_cons_zero, List.set_cons_succ]
        refine any_read (i := 37) (o := { dst := some 81, op := Op.move (Operand.tmp 4), type := 9, pos := "law.go:45", after := #[{ on := 35, ground := Ground.guard }], guard := some (35, false) }) (v := ?_) rfl (by kernel_rfl) (by kernel_rfl) (by kernel_rfl) (fun _ _ _ h => h) (by rfl) ?_ ?_
        rotate_left
        · (intro x; go_simp; try with_reducible rfl)
        try simp only [Act.put, List.setIfInBounds_toArray, List.set_cons_zero, List.set_cons_succ]
        refine any_read (i := 40) (o := { dst := some 84, op := Op.move (Operand.tmp 0), type := 24, pos := "law.go:45", after := #[{ on := 35, ground := Ground.guard }], guard := some (35, false) }) (v := ?_) rfl (by kernel_rfl) (by kernel_rfl) (by kernel_rfl) (fun _ _ _ h => h) (by rfl) ?_ ?_
        rotate_left
        · (intro x; go_simp; try with_reducible rfl)
        try simp only [Act.put, List.setIfInBounds_toArray, List.set_cons_zero, List.set_cons_succ]
        refine any_read (i := 41) (o := { dst := some 85, op := Op.move (Operand.tmp 4), type := 9, pos := "law.go:45", after := #[{ on := 35, ground := Ground.guard }], guard := some (35, false) }) (v := ?_) rfl (by kernel_rfl) (by kernel_rfl) (by kernel_rfl) (fun _ _ _ h => h) (by rfl) ?_ ?_
        rotate_left
        · (intro x; go_simp; try with_reducible rfl)
        try simp only [Act.put, List.setIfInBounds_toArray, List.set_cons_zero, List.set_cons_succ]
        refine any_call (i := 38) (o := { dst := some 82, op := Op.call { callee := Callee.value (Operand.func 30), args := #[Operand.tmp 80, Operand.tmp 81], argTypes := #[24, 9] }, type := 24, pos := "law.go:45", after := #[{ on := 36, ground := Ground.data }, { on := 37, ground := Ground.data }, { on := 35, ground := Ground.chain }, { on := 35, ground := Ground.guard }], guard := some (35, false) }) rfl (by kernel_rfl) (by rfl) (fun K hK => ?_)
        go_simp
        refine (ptext_any t (by omega) (rd_go HOwn HX) (by omega)).mono ?_
        rintro e w40 ⟨v40, rfl, hl40⟩
        obtain ⟨A40, n40, c40, rfl, hr40⟩ := hl40.reads'
        refine hK.out _ _ hl40.below ?_
        have hcv40 := fun x : Later w40 => conv_all (hr40.later x.below)
        replace HX := bel_go HX hl40.below
        clear hl40 hr40 hK K
        try simp only [Act.put, List.setIfInBounds_toArray, List.set_cons_zero, List.set_cons_succ]
        refine any_read (i := 39) (o := { dst := some 83, op := Op.convert 24 9 (Operand.tmp 82), type := 9, pos := "law.go:45", after := #[{ on := 38, ground := Ground.data }, { on := 35, ground := Ground.guard }], guard := some (35, false) }) (v := ?_) rfl (by kernel_rfl) (by kernel_rfl) (by kernel_rfl) (fun _ _ _ h => h) (by rfl) ?_ ?_
        rotate_left
        · (intro x; go_simp; try with_reducible rfl)
        try simp only [Act.put, List.setIfInBounds_toArray, List.set_cons_zero, List.set_cons_succ]
        refine any_call (i := 42) (o := { dst := some 86, op := Op.call { callee := Callee.value (Operand.func 31), args := #[Operand.tmp 84, Operand.tmp 85], argTypes := #[24, 9] }, type := 24, pos := "law.go:45", after := #[{ on := 40, ground := Ground.data }, { on := 41, ground := Ground.data }, { on := 38, ground := Ground.chain }, { on := 35, ground := Ground.guard }], guard := some (35, false) }) rfl (by kernel_rfl) (by rfl) (fun K hK => ?_)
        go_simp
        refine (rtext_any t (by omega) (rd_go HBs HX) (by omega)).mono ?_
        rintro e w41 ⟨v41, rfl, hl41⟩
        obtain ⟨A41, n41, c41, rfl, hr41⟩ := hl41.reads'
        refine hK.out _ _ hl41.below ?_
        have hcv41 := fun x : Later w41 => conv_all (hr41.later x.below)
        replace HX := bel_go HX hl41.below
        clear hl41 hr41 hK K
        try simp only [Act.put, List.setIfInBounds_toArray, List.set_cons_zero, List.set_cons_succ]
        refine any_read (i := 43) (o := { dst := some 87, op := Op.convert 24 9 (Operand.tmp 86), type := 9, pos := "law.go:45", after := #[{ on := 42, ground := Ground.data }, { on := 35, ground := Ground.guard }], guard := some (35, false) }) (v := ?_) rfl (by kernel_rfl) (by kernel_rfl) (by kernel_rfl) (fun _ _ _ h => h) (by rfl) ?_ ?_
        rotate_left
        · (intro x; go_simp; try with_reducible rfl)
        try simp only [Act.put, List.setIfInBounds_toArray, List.set_cons_zero, List.set_cons_succ]
        refine any_read (i := 44) (o := { dst := some 88, op := Op.binOp BinOp.neq 9 (Operand.tmp 83) (Operand.tmp 87) 9, type := 4, pos := "law.go:45", after := #[{ on := 39, ground := Ground.data }, { on := 43, ground := Ground.data }, { on := 35, ground := Ground.guard }], guard := some (35, false) }) (v := ?_) rfl (by kernel_rfl) (by kernel_rfl) (by kernel_rfl) (fun _ _ _ h => h) (by rfl) ?_ ?_
        rotate_left
        · (intro x; go_simp; try with_reducible rfl)
        try simp only [Act.put, List.setIfInBounds_toArray, List.set_cons_zero, List.set_cons_succ]
        refine any_read (i := 45) (o := { dst := some 89, op := Op.pick (Operand.tmp 79) (Operand.const (Value.bool true)) (Operand.tmp 88), type := 4, pos := "law.go:45", after := #[{ on := 35, ground := Ground.data }, { on := 44, ground := Ground.data }], guard := none }) (v := ?_) rfl (by kernel_rfl) (by kernel_rfl) (by kernel_rfl) (fun _ _ _ h => h) (by rfl) ?_ ?_
        rotate_left
        · (intro x; go_simp; try with_reducible rfl)
        try simp only [Act.put, List.setIfInBounds_toArray, List.set_cons_zero, List.set_cons_succ]
        refine wpAnyH_done (by kernel_rfl) ?_ _
        go_wp2_with fail
        go_meet
        exact ⟨rfl, HX.out⟩
      case rest =>
        obtain ⟨rfl, hX⟩ := hcut
        have HF6 := Lib.hid (HFull.out.later hX)
        have HO6 := Lib.hid (HOwn.out.later hX)
        have HS6 := Lib.hid (HBs.out.later hX)
        have HW7 : Hid (Below w.heap.size w wc) := HW6.out.trans ⟨hX.os, hX.tape, hX.output, hX.size, fun i hi => hX.block i (Nat.lt_of_lt_of_le hi HW6.out.size)⟩
        clear hX HX HFull HOwn HBs HW6
        go_wp2_with fail
        go_loopw [16] (fun ii wr => ∃ k : Nat, k ≤ 12 ∧ ii = .int .i64 (k : Int) ∧ wr = wc) (fun ii _ => 12 - (intOf ii).toNat)
        case atStart => exact ⟨0, by omega, rfl, rfl⟩
        case round =>
          obtain ⟨k, hk, rfl, rfl⟩ := hrel
          by_cases hk12 : k < 12
          · obtain ⟨rb, ro, rfl, hcell⟩ := HF6.out.at_ (j := bs.length + k) (by omega)
            have hk12' : (k : Int) < 12 := by omega
            have hv := twelve_at bs hk12
            rw [hv] at hcell
            have w1 : IntKind.i64.wrap ((bs.length : Int) + (k : Int)) = (bs.length : Int) + (k : Int) := IntWalk.i64_in _ (by omega)
            have w2' : IntKind.u8.wrap ((k : Int) + 1) = (k : Int) + 1 := IntWalk.u8_in _ (by omega)
            go_wp2_with fail
            exact ⟨⟨k + 1, by omega, rfl, trivial⟩, by simp [intOf]; omega⟩
          · obtain rfl : k = 12 := by omega
            have hc1 := conv_all HO6.out
            have hc2 := conv_all HS6.out
            go_wp2_with fail
            go_ret
            exact ⟨rfl, HW7.out⟩
theorem ptells_below (w : World) (A : Option Addr) (len cap : Nat) (zs : List Int) (hr : IsRow .u8 w A len cap zs) (hp : ∀ x, A = some x → x.spot = none) (m : Int) (hm : (Lit.int .i64 m).wf = true) (i : Int) (hi : (Lit.int .i64 i).wf = true) (x : Nat) (hx : (Lit.float .f64 x).wf = true) (s : ByteArray) (hs : s.size ≤ 140737488351232)
    (B : Option Addr) (len2 cap2 : Nat) (zs2 : List Int) (hr2 : IsRow .i64 w B len2 cap2 zs2) :
    Calls Try.prog 4 #[.slice A len cap, .int .i64 m, .int .i64 i, .float .f64 x, .string s, .slice B len2 cap2] w fun e w' => e = .returned (.bool true) ∧ Below w.heap.size w w' := by
  obtain ⟨l, h1, h2, h3, -, -⟩ := hr.rd hp
  exact ptells_walk A len cap l m i x s B len2 cap2 (i64_range hm).1 (i64_range hm).2 (i64_range hi).1 (i64_range hi).2 (f64_range hx) hs w h1 h2 h3 hr2.draws
end Go.Proofs.Ytkapdefghigdoaa
