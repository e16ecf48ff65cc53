
/- PackBack: the walk. -/
import Derived.Test.YtkapdefghigdoaaPackBackFn
import Derived.Test.YtkapdefghigdoaaMath
import Derived.Test.YtkapdefghigdoaaHeld
import Derived.Deep.DeepCutAuto
namespace Go.Proofs.Ytkapdefghigdoaa
open Go.RowKit

/-- Four boxes in a row, made since w, and that nothing of w has turned. -/
structure Bx (w W : World) (q i : Int) (x : Nat) (t : ByteArray) : Prop where
  n0 : Box W w.heap.size (.int .i64 q)
  i0 : Box W (w.heap.size + 1) (.int .i64 i)
  x0 : Box W (w.heap.size + 2) (.float .f64 x)
  s0 : Box W (w.heap.size + 3) (.string t)
  below : Below w.heap.size w W
theorem Bx.kept {w W W' : World} {q i : Int} {x : Nat} {t : ByteArray} (h : Bx w W q i x t) {S : Nat → Prop} (k : Kept S W W') (hs : ∀ j, j < w.heap.size + 4 → ¬ S j) : Bx w W' q i x t :=
  ⟨h.n0.kept k (hs _ (by omega)), h.i0.kept k (hs _ (by omega)), h.x0.kept k (hs _ (by omega)), h.s0.kept k (hs _ (by omega)), h.below.trans (k.below h.below.size (fun j hj => hs j (by omega)))⟩
theorem Bx.later {w W W' : World} {q i : Int} {x : Nat} {t : ByteArray} (h : Bx w W q i x t) (k : Below W.heap.size W W') : Bx w W' q i x t :=
  h.kept (S := fun _ => False) (Kept.ofBelow k) (fun _ _ => id)
theorem Bx.setn {w W : World} {q i : Int} {x : Nat} {t : ByteArray} (h : Bx w W q i x t) (q' : Int) : Bx w (W.setCell ⟨w.heap.size, 0, none⟩ (.int .i64 q')) q' i x t := by
  have k : Kept (· = w.heap.size) W (W.setCell ⟨w.heap.size, 0, none⟩ (.int .i64 q')) := Kept.setCell (S := (· = w.heap.size)) _ _ rfl _
  exact ⟨h.n0.set _, h.i0.kept k (by omega), h.x0.kept k (by omega), h.s0.kept k (by omega), h.below.trans (k.below h.below.size (fun j hj => by omega))⟩
theorem Bx.setx {w W : World} {q i : Int} {x : Nat} {t : ByteArray} (h : Bx w W q i x t) (x' : Nat) : Bx w (W.setCell ⟨w.heap.size + 2, 0, none⟩ (.float .f64 x')) q i x' t := by
  have k : Kept (· = w.heap.size + 2) W (W.setCell ⟨w.heap.size + 2, 0, none⟩ (.float .f64 x')) := Kept.setCell (S := (· = w.heap.size + 2)) _ _ rfl _
  exact ⟨h.n0.kept k (by omega), h.i0.kept k (by omega), h.x0.set _, h.s0.kept k (by omega), h.below.trans (k.below h.below.size (fun j hj => by omega))⟩
theorem Bx.sets {w W : World} {q i : Int} {x : Nat} {t : ByteArray} (h : Bx w W q i x t) (t' : ByteArray) : Bx w (W.setCell ⟨w.heap.size + 3, 0, none⟩ (.string t')) q i x t' := by
  have k : Kept (· = w.heap.size + 3) W (W.setCell ⟨w.heap.size + 3, 0, none⟩ (.string t')) := Kept.setCell (S := (· = w.heap.size + 3)) _ _ rfl _
  exact ⟨h.n0.kept k (by omega), h.i0.kept k (by omega), h.x0.kept k (by omega), h.s0.set _, h.below.trans (k.below h.below.size (fun j hj => by omega))⟩

/-- The world behind the boxes. -/
def bxWorld (w : World) (n i : Int) (x : Nat) (s : ByteArray) : World :=
  (((w.alloc (.cells #[.int .i64 n] 3)).alloc (.cells #[.int .i64 i] 2)).alloc (.cells #[.float .f64 x] 32)).alloc (.cells #[.string s] 9)
theorem bxWorld_bx (w : World) (n i : Int) (x : Nat) (s : ByteArray) : Bx w (bxWorld w n i x s) n i x s := by
  refine ⟨?_, ?_, ?_, ?_, ?_⟩
  · simp [bxWorld, Box, go_sem]
  · simp [bxWorld, Box, go_sem]
  · simp [bxWorld, Box, go_sem]
  · simp [bxWorld, Box, go_sem]
  · exact ((((Below.refl _ _).alloc (Nat.le_refl _) _).alloc (by simp) _).alloc (by simp; omega) _).alloc (by simp; omega) _
theorem bxWorld_size (w : World) (n i : Int) (x : Nat) (s : ByteArray) : (bxWorld w n i x s).heap.size = w.heap.size + 4 := by simp [bxWorld]

def BackAt (w wx : World) (q : Nat) (i : Int) (y : Nat) (t : ByteArray) (s12 : Value) : Prop :=
  ∃ g A n c, s12 = .pointer (some ⟨g, 0, none⟩) ∧ Box wx g (.slice A n c) ∧ Rd wx A n c (backList q i y t) ∧ n ≤ c ∧ (∀ ad, A = some ad → ad.block < wx.heap.size ∧ ¬ ad.block = g) ∧ Bx w wx q i y t ∧ w.heap.size + 4 ≤ g
/-- Bytes in memory that is there. -/
structure Lb (w : World) (A : Option Addr) (n c : Nat) (l : List Nat) : Prop where
  rd : Rd w A n c l
  cap : n ≤ c
  lt : ∀ ad, A = some ad → ad.block < w.heap.size
theorem Lb.later {w w' : World} {A : Option Addr} {n c : Nat} {l : List Nat} (h : Lb w A n c l) (k : Below w.heap.size w w') : Lb w' A n c l := ⟨h.rd.later k, h.cap, fun ad e => Nat.lt_of_lt_of_le (h.lt ad e) k.size⟩
theorem Laid.lb {W0 w : World} {v : Value} {l : List Nat} (h : Laid W0 w v l) : ∃ A n c, v = .slice A n c ∧ Lb w A n c l ∧ n = l.length := by
  obtain ⟨A, n, c, e, hr, hc, ha, hn⟩ := h.readsc
  exact ⟨A, n, c, e, ⟨hr, hc, ha⟩, hn⟩
theorem Laid.apart {W0 w : World} {A : Option Addr} {n c : Nat} {l : List Nat} (hL : Laid W0 w (.slice A n c) l) {g : Nat} (hg : g < W0.heap.size) : ∀ ad, A = some ad → ¬ ad.block = g := by
  intro ad ea
  rcases hL.1.2 with ⟨e, h0⟩ | ⟨b, cap, cur, fz, e, hb, hh, hfz, hn, hm, hs, ht⟩
  · obtain ⟨rfl, -, -⟩ := Value.slice.inj e; cases ea
  · obtain ⟨rfl, -, -⟩ := Value.slice.inj e; cases ea
    show ¬ b = g
    omega
theorem back_ends {w wc w5 : World} {q : Nat} {i : Int} {y : Nat} {t : ByteArray} {A : Option Addr} {n c g : Nat} (hX : Bx w wc q i y t) (hl : w.heap.size + 4 ≤ wc.heap.size) (hB : Below wc.heap.size wc w5) (hL : Lb w5 A n c (backList q i y t))
    (hap : ∀ ad, A = some ad → ¬ ad.block = g) (hG : Box w5 g (.slice none 0 0)) (hg : wc.heap.size ≤ g) : BackAt w (w5.setCell ⟨g, 0, none⟩ (.slice A n c)) q i y t (.pointer (some ⟨g, 0, none⟩)) := by
  have k : Kept (· = g) w5 (w5.setCell ⟨g, 0, none⟩ (.slice A n c)) := Kept.setCell (S := (· = g)) _ _ rfl _
  exact ⟨g, A, n, c, rfl, hG.set _, hL.rd.kept k hap, hL.cap, fun ad ea => ⟨Nat.lt_of_lt_of_le (hL.lt ad ea) k.size, hap ad ea⟩, (hX.later hB).kept k (fun j hj e => by omega), by omega⟩

theorem back_len (q : Nat) (hq : q ≤ 4611686018427387904) (i : Int) (y : Nat) (t : ByteArray) (ht : t.size ≤ 200) : (backList q i y t).length ≤ 300 := by
  have h1 := natb_len9 hq
  have h2 := natb_len9 (m := t.size) (by omega)
  have h3 := bytesOf_len t
  unfold backList
  simp only [List.length_append, eightb_len]
  omega
theorem back_read {w wz : World} {A : Option Addr} {nb cb : Nat} {q : Nat} {i : Int} {y : Nat} {t : ByteArray} {g pf : Nat} (hr : Rd wz A nb cb (backList q i y t)) (hc : nb ≤ cb) (hap : ∀ ad, A = some ad → ad.block < wz.heap.size)
    (hq : q ≤ 4611686018427387904) (hi1 : -9223372036854775808 ≤ i) (hi2 : i ≤ 9223372036854775807) (hy : y < 2 ^ 64) (ht : t.size ≤ 200) (bg : Box wz g (.slice A nb cb)) (hX : Bx w wz q i y t) (bf : Box wz pf (.bool false)) (hg4 : w.heap.size + 4 ≤ g) (hgf : g < pf) :
    Calls Try.prog 8 #[.slice A nb cb, .func (.func 42) #[] #[.pointer (some ⟨g, 0, none⟩), .pointer (some ⟨w.heap.size, 0, none⟩), .pointer (some ⟨w.heap.size + 1, 0, none⟩), .pointer (some ⟨w.heap.size + 2, 0, none⟩), .pointer (some ⟨w.heap.size + 3, 0, none⟩), .pointer (some ⟨pf, 0, none⟩)]] wz fun e w' =>
      e = .returned (.int .i64 0) ∧ Box w' pf (.bool true) ∧ Below w.heap.size w w' := by
  have hl := back_len q hq i y t ht
  have hnb := hr.1
  have lg := bg.lt
  have lf := bf.lt
  have l3 := hX.s0.lt
  refine (read_of 42 _ hr hc (by omega) hap 0 [] (fun k => k = wz.heap.size + 1 ∨ k = pf) (fun w5 => Box w5 pf (.bool true)) (fun w => by kernel_rfl) (fun k h1 h2 => by rcases h2 with h2 | h2 <;> omega) ?_).mono ?_
  · intro w4 hb hs hpr
    have hX4 := hX.later hb
    exact back_fn hpr hq hi1 hi2 hy ht (bg.later hb lg) hX4.n0 hX4.i0 hX4.x0 hX4.s0 (bf.later hb lf) ⟨by omega, by omega, by omega, by omega, by omega, by omega⟩
  · rintro e w' ⟨rfl, w5, hq, hk, hk2⟩
    exact ⟨rfl, hq.kept hk (by omega), hX.below.trans (hk2.below hX.below.size (fun k hk e => by rcases e with e | e <;> omega))⟩

theorem feed_at {B : Nat} {w : World} {a : Option Addr} {len cap : Nat} (h : Draws B w a len) (hB : B ≤ w.heap.size) (t : TypeId) : IsFeed B (w.alloc (.cells #[.slice a len cap, .int .i64 0] t)) w.heap.size 0 := by
  refine ⟨hB, a, len, cap, 0, Nat.le_refl _, by simp, by simp, by simp, ?_⟩
  exact h.kept (S := fun _ => False) (Kept.alloc _ w _) hB (fun _ _ => id)
theorem Draws.later {B : Nat} {w w' : World} {a : Option Addr} {len : Nat} (h : Draws B w a len) (k : Below B w w') (hB : B ≤ w.heap.size) : Draws B w' a len :=
  h.kept (S := fun i => B ≤ i) (Kept.ofBelow' k (fun _ h => h)) hB (fun i hi h => by omega)

set_option maxRecDepth 100000 in
set_option maxHeartbeats 4000000 in
theorem packback_walk (w : World) (n i : Int) (hi1 : -9223372036854775808 ≤ i) (hi2 : i ≤ 9223372036854775807) (x : Nat) (hx : x < 2 ^ 64) (s : ByteArray) (hs : s.size ≤ 140737488351232) (B : Option Addr) (len cap : Nat) (hd : Draws w.heap.size w B len) :
    Calls Try.prog 6 #[.int .i64 n, .int .i64 i, .float .f64 x, .string s, .slice B len cap] w fun e w' => e = .returned (.bool true) ∧ Below w.heap.size w w' := by
  obtain ⟨m, q, hq, hqe⟩ := clamp_nat n
  have HQ := Lib.hid hqe
  clear hqe
  have HX := Lib.hid (bxWorld_bx w n i x s)
  have hsz := bxWorld_size w n i x s
  go_enter Try.func6, Try.ntmps6
  go_upto_region 1 with fail
  rw [show (((w.alloc (.cells #[.int .i64 n] 3)).alloc (.cells #[.int .i64 i] 2)).alloc (.cells #[.float .f64 x] 32)).alloc (.cells #[.string s] 9) = bxWorld w n i x s from rfl]
  have HF := Lib.hid (feed_at (cap := cap) (hd.later HX.out.below (Nat.le_refl _)) HX.out.below.size 36)
  have HX1 := Lib.hid (HX.out.later (one_more _ (.cells #[.slice B len cap, .int .i64 0] 36)))
  clear HX hd
  generalize bxWorld w n i x s = W at HF HX1 hsz ⊢
  rw [hsz] at HF
  go_upto_region 2 with fail
  rw [show w.heap.size + 1 + 1 + 1 = w.heap.size + 3 from rfl, show w.heap.size + 1 + 1 = w.heap.size + 2 from rfl]
  clear hsz
  generalize W.alloc (.cells #[.slice B len cap, .int .i64 0] 36) = W1 at HF HX1 ⊢
  clear W
  obtain ⟨hc0, hf0⟩ := HX1.out.n0
  go_upto_region 3 with fail
  rw [HQ.out.1, HQ.out.2]
  have HX2 := Lib.hid (HX1.out.setn (q : Int))
  have HF2 := Lib.hid (HF.out.kept (Kept.setCell (S := (· = w.heap.size)) W1 ⟨w.heap.size, 0, none⟩ rfl (.int .i64 (q : Int))) (by omega) (fun i hi e => by omega))
  clear hc0 hf0 HQ HX1 HF
  generalize W1.setCell ⟨w.heap.size, 0, none⟩ (.int .i64 (q : Int)) = W2 at HF2 HX2 ⊢
  clear W1
  obtain ⟨hc0, hf0⟩ := HX2.out.s0
  go_wp2_with fail
  refine (short_any s 200 (by omega) hs _).mono ?_
  rintro e W3 ⟨t, rfl, ht, rfl⟩
  go_upto_region 4 with fail
  have HX3 := Lib.hid (HX2.out.sets t)
  have HF3 := Lib.hid (HF2.out.kept (Kept.setCell (S := (· = w.heap.size + 3)) W2 ⟨w.heap.size + 3, 0, none⟩ rfl (.string t)) (by omega) (fun i hi e => by omega))
  clear hc0 hf0 HX2 HF2 hs
  generalize W2.setCell ⟨w.heap.size + 3, 0, none⟩ (.string t) = W3 at HF3 HX3 ⊢
  clear W2
  go_wp2_with fail
  refine (next_any 2 (by omega) (by omega) _ (by omega) HF3.out).mono ?_
  rintro e W4 ⟨k, hk, rfl, hF4, hK4, hs4⟩
  have HF4 := Lib.hid hF4
  have HX4 := Lib.hid (HX3.out.kept hK4 (fun j hj e => by omega))
  clear hF4 hK4 hs4 HF3 HX3
  have hk2 : k = 0 ∨ k = 1 := by omega
  clear hk W3
  go_upto_if 25 with fail
  go_cut [] (fun wx => ∃ y : Nat, y < 2 ^ 64 ∧ Bx w wx q i y t ∧ w.heap.size + 4 < wx.heap.size)
  case first =>
    have hl4 := HF4.out.lt
    rcases hk2 with rfl | rfl
    · go_wp2_with fail
      go_meet
      exact ⟨x, hx, HX4.out, hl4⟩
    · go_wp2_with fail
      refine (feedfloat_any _ (by omega) HF4.out).mono ?_
      rintro e W5 ⟨y, hy, rfl, hF5, hK5⟩
      have HX5 := Lib.hid (HX4.out.kept hK5 (fun j hj e => by omega))
      have hl5 := hF5.lt
      obtain ⟨hc0, hf0⟩ := HX5.out.x0
      have hst := store_float ⟨w.heap.size + 2, 0, none⟩ y W5
      clear hF5 hK5 HX4 HF4
      go_wp2_with fail
      go_meet
      exact ⟨y, hy, HX5.out.setx y, by simpa [World.setCell] using hl5⟩
  case rest =>
    clear hx hk2 HF4 HX4
    obtain ⟨y, hy, hX, hl⟩ := hcut
    have HX5 := Lib.hid hX
    clear hX
    obtain ⟨c0, -⟩ := HX5.out.n0
    obtain ⟨c1, -⟩ := HX5.out.i0
    obtain ⟨c2, -⟩ := HX5.out.x0
    obtain ⟨c3, -⟩ := HX5.out.s0
    go_upto_region 6 with fail
    go_cut [12] (fun s12 wx => BackAt w wx q i y t s12)
    case first =>
      refine held_begin (fun z => Below wc.heap.size wc z) (by kernel_rfl) ?_
      have HB : Hid (Below wc.heap.size wc wc.drew) := drew_below wc
      generalize wc.drew = wd at HB ⊢
      refine held_read (i := 0) (o := { dst := some 28, op := Op.load 3 (Operand.tmp 5), type := 3, pos := "law.go:143", after := #[], guard := none }) (v := ?_) rfl (by kernel_rfl) (by kernel_rfl) (by kernel_rfl) (fun _ _ _ h => h) (by rfl) HB.out ?_ ?_
      rotate_left
      · (intro x hx; have e0 := load_at hx c0; have e1 := load_at hx c1; have e2 := load_at hx c2; have e3 := load_at hx c3; go_simp; try with_reducible rfl)
      try simp only [Act.put, List.setIfInBounds_toArray, List.set_cons_zero, List.set_cons_succ]
      refine held_read (i := 2) (o := { dst := some 30, op := Op.load 2 (Operand.tmp 6), type := 2, pos := "law.go:143", after := #[], guard := none }) (v := ?_) rfl (by kernel_rfl) (by kernel_rfl) (by kernel_rfl) (fun _ _ _ h => h) (by rfl) HB.out ?_ ?_
      rotate_left
      · (intro x hx; have e0 := load_at hx c0; have e1 := load_at hx c1; have e2 := load_at hx c2; have e3 := load_at hx c3; go_simp; try with_reducible rfl)
      try simp only [Act.put, List.setIfInBounds_toArray, List.set_cons_zero, List.set_cons_succ]
      refine held_read (i := 4) (o := { dst := some 32, op := Op.load 32 (Operand.tmp 7), type := 32, pos := "law.go:143", after := #[], guard := none }) (v := ?_) rfl (by kernel_rfl) (by kernel_rfl) (by kernel_rfl) (fun _ _ _ h => h) (by rfl) HB.out ?_ ?_
      rotate_left
      · (intro x hx; have e0 := load_at hx c0; have e1 := load_at hx c1; have e2 := load_at hx c2; have e3 := load_at hx c3; go_simp; try with_reducible rfl)
      try simp only [Act.put, List.setIfInBounds_toArray, List.set_cons_zero, List.set_cons_succ]
      refine held_read (i := 6) (o := { dst := some 34, op := Op.load 9 (Operand.tmp 8), type := 9, pos := "law.go:143", after := #[], guard := none }) (v := ?_) rfl (by kernel_rfl) (by kernel_rfl) (by kernel_rfl) (fun _ _ _ h => h) (by rfl) HB.out ?_ ?_
      rotate_left
      · (intro x hx; have e0 := load_at hx c0; have e1 := load_at hx c1; have e2 := load_at hx c2; have e3 := load_at hx c3; go_simp; try with_reducible rfl)
      try simp only [Act.put, List.setIfInBounds_toArray, List.set_cons_zero, List.set_cons_succ]
      refine held_two (i := 1) (j := 8) (o := { dst := some 29, op := Op.call { callee := Callee.value (Operand.func 19), args := #[Operand.const (Value.slice none 0 0), Operand.tmp 28], argTypes := #[24, 3] }, type := 24, pos := "law.go:143", after := #[{ on := 0, ground := Ground.data }], guard := none }) (p := { dst := some 12, op := Op.alloc 24, type := 0, pos := "law.go:143", after := #[], guard := none }) rfl rfl (by kernel_rfl) (by rfl) (by rfl) (fun K hK => ?_) (fun K hK => ?_)
      · skip
        go_simp
        refine (pnat_any (q : Int) (rd_nil _) (by omega)).mono ?_
        rintro e w1 ⟨v1, rfl, hl1⟩
        rw [natw_nat hq, List.nil_append] at hl1
        obtain ⟨A1, n1, c1, rfl, hb1, hn1⟩ := hl1.lb
        have N1 : n1 ≤ 9 := by have := natb_len9 hq; omega
        replace HB := Lib.hid (HB.out.trans (hl1.below.mono HB.out.size))
        skip
        try (replace HG := Lib.hid (HG.out.later hl1.below HG.out.lt))
        have HR1 := Lib.hid hb1
        refine hK.out _ _ HB.out ?_
        clear hl1 hb1 hn1 hK K
        try simp only [Act.put, List.setIfInBounds_toArray, List.set_cons_zero, List.set_cons_succ]
        refine held_two (i := 3) (j := 8) (o := { dst := some 31, op := Op.call { callee := Callee.value (Operand.func 26), args := #[Operand.tmp 29, Operand.tmp 30], argTypes := #[24, 2] }, type := 24, pos := "law.go:143", after := #[{ on := 1, ground := Ground.data }, { on := 2, ground := Ground.data }, { on := 1, ground := Ground.chain }], guard := none }) (p := { dst := some 12, op := Op.alloc 24, type := 0, pos := "law.go:143", after := #[], guard := none }) rfl rfl (by kernel_rfl) (by rfl) (by rfl) (fun K hK => ?_) (fun K hK => ?_)
        · skip
          go_simp
          refine (pint_any i HR1.out.rd (by omega)).mono ?_
          rintro e w2 ⟨v2, rfl, hl2⟩
          obtain ⟨A2, n2, c2, rfl, hb2, hn2⟩ := hl2.lb
          have N2 : n2 ≤ 17 := by rw [hn2, List.length_append, eightb_len, HR1.out.rd.1]; omega
          replace HB := Lib.hid (HB.out.trans (hl2.below.mono HB.out.size))
          skip
          try (replace HG := Lib.hid (HG.out.later hl2.below HG.out.lt))
          have HR2 := Lib.hid hb2
          refine hK.out _ _ HB.out ?_
          clear hl2 hb2 hn2 hK K
          clear HR1
          try simp only [Act.put, List.setIfInBounds_toArray, List.set_cons_zero, List.set_cons_succ]
          refine held_two (i := 5) (j := 8) (o := { dst := some 33, op := Op.call { callee := Callee.value (Operand.func 28), args := #[Operand.tmp 31, Operand.tmp 32], argTypes := #[24, 32] }, type := 24, pos := "law.go:143", after := #[{ on := 3, ground := Ground.data }, { on := 4, ground := Ground.data }, { on := 3, ground := Ground.chain }], guard := none }) (p := { dst := some 12, op := Op.alloc 24, type := 0, pos := "law.go:143", after := #[], guard := none }) rfl rfl (by kernel_rfl) (by rfl) (by rfl) (fun K hK => ?_) (fun K hK => ?_)
          · skip
            go_simp
            refine (pfloat_any y hy HR2.out.rd (by omega)).mono ?_
            rintro e w3 ⟨v3, rfl, hl3⟩
            obtain ⟨A3, n3, c3, rfl, hb3, hn3⟩ := hl3.lb
            have N3 : n3 ≤ 25 := by rw [hn3, List.length_append, eightb_len, HR2.out.rd.1]; omega
            replace HB := Lib.hid (HB.out.trans (hl3.below.mono HB.out.size))
            skip
            try (replace HG := Lib.hid (HG.out.later hl3.below HG.out.lt))
            have HR3 := Lib.hid hb3
            refine hK.out _ _ HB.out ?_
            clear hl3 hb3 hn3 hK K
            clear HR2
            try simp only [Act.put, List.setIfInBounds_toArray, List.set_cons_zero, List.set_cons_succ]
            refine held_two (i := 7) (j := 8) (o := { dst := some 35, op := Op.call { callee := Callee.value (Operand.func 30), args := #[Operand.tmp 33, Operand.tmp 34], argTypes := #[24, 9] }, type := 24, pos := "law.go:143", after := #[{ on := 5, ground := Ground.data }, { on := 6, ground := Ground.data }, { on := 5, ground := Ground.chain }], guard := none }) (p := { dst := some 12, op := Op.alloc 24, type := 0, pos := "law.go:143", after := #[], guard := none }) rfl rfl (by kernel_rfl) (by rfl) (by rfl) (fun K hK => ?_) (fun K hK => ?_)
            · skip
              go_simp
              refine (ptext_any t (by omega) HR3.out.rd (by omega)).mono ?_
              rintro e w4 ⟨v4, rfl, hl4⟩
              obtain ⟨A4, n4, c4, rfl, hb4, hn4⟩ := hl4.lb
              skip
              replace HB := Lib.hid (HB.out.trans (hl4.below.mono HB.out.size))
              try (have HP := Lib.hid (hl4.apart HG.out.lt))
              try (replace HG := Lib.hid (HG.out.later hl4.below HG.out.lt))
              have HR4 := Lib.hid hb4
              refine hK.out _ _ HB.out ?_
              clear hl4 hb4 hn4 hK K
              clear HR3
              try simp only [Act.put, List.setIfInBounds_toArray, List.set_cons_zero, List.set_cons_succ]
              refine held_call (i := 8) (o := { dst := some 12, op := Op.alloc 24, type := 0, pos := "law.go:143", after := #[], guard := none }) rfl (by kernel_rfl) (by rfl) (fun K hK => ?_)
              go_simp
              refine alloc_out hK HB.out HB.out.size ?_
              intro wa hb hg hbe
              have hgw := HB.out.size
              have HG : Hid (Box wa _ _) := hg
              try (replace HR1 := Lib.hid (HR1.out.later hbe))
              try (replace HR2 := Lib.hid (HR2.out.later hbe))
              try (replace HR3 := Lib.hid (HR3.out.later hbe))
              try (have HP := Lib.hid (fun ad (e : A4 = some ad) => Nat.ne_of_lt (HR4.out.lt ad e)))
              try (replace HR4 := Lib.hid (HR4.out.later hbe))
              replace HB := Lib.hid hb
              clear hb hg hbe hK K
              try simp only [Act.put, List.setIfInBounds_toArray, List.set_cons_zero, List.set_cons_succ]
              refine held_call (i := 9) (o := { dst := none, op := Op.store 24 (Operand.tmp 12) (Operand.tmp 35), type := 0, pos := "law.go:143", after := #[{ on := 8, ground := Ground.data }, { on := 7, ground := Ground.data }, { on := 7, ground := Ground.chain }, { on := 0, ground := Ground.phase }, { on := 1, ground := Ground.phase }, { on := 2, ground := Ground.phase }, { on := 3, ground := Ground.phase }, { on := 4, ground := Ground.phase }, { on := 5, ground := Ground.phase }, { on := 6, ground := Ground.phase }, { on := 7, ground := Ground.phase }, { on := 8, ground := Ground.phase }], guard := none }) rfl (by kernel_rfl) (by rfl) (fun K hK => ?_)
              obtain ⟨hgc, hgf⟩ := HG.out
              go_simp
              refine hK.out _ _ (HB.out.setCell hgw _) ?_
              clear hK K
              try simp only [Act.put, List.setIfInBounds_toArray, List.set_cons_zero, List.set_cons_succ]
              refine wpAnyH_done (by kernel_rfl) ?_ _
              clear hgc hgf
              go_wp2_with fail
              go_meet
              exact back_ends HX5.out (Nat.le_of_lt hl) HB.out HR4.out HP.out HG.out hgw
            · skip
              go_simp
              refine alloc_out hK HB.out HB.out.size ?_
              intro wa hb hg hbe
              have hgw := HB.out.size
              have HG : Hid (Box wa _ _) := hg
              try (replace HR1 := Lib.hid (HR1.out.later hbe))
              try (replace HR2 := Lib.hid (HR2.out.later hbe))
              try (replace HR3 := Lib.hid (HR3.out.later hbe))
              try (have HP := Lib.hid (fun ad (e : A4 = some ad) => Nat.ne_of_lt (HR4.out.lt ad e)))
              try (replace HR4 := Lib.hid (HR4.out.later hbe))
              replace HB := Lib.hid hb
              clear hb hg hbe hK K
              try simp only [Act.put, List.setIfInBounds_toArray, List.set_cons_zero, List.set_cons_succ]
              refine held_call (i := 7) (o := { dst := some 35, op := Op.call { callee := Callee.value (Operand.func 30), args := #[Operand.tmp 33, Operand.tmp 34], argTypes := #[24, 9] }, type := 24, pos := "law.go:143", after := #[{ on := 5, ground := Ground.data }, { on := 6, ground := Ground.data }, { on := 5, ground := Ground.chain }], guard := none }) rfl (by kernel_rfl) (by rfl) (fun K hK => ?_)
              go_simp
              refine (ptext_any t (by omega) HR3.out.rd (by omega)).mono ?_
              rintro e w4 ⟨v4, rfl, hl4⟩
              obtain ⟨A4, n4, c4, rfl, hb4, hn4⟩ := hl4.lb
              skip
              replace HB := Lib.hid (HB.out.trans (hl4.below.mono HB.out.size))
              try (have HP := Lib.hid (hl4.apart HG.out.lt))
              try (replace HG := Lib.hid (HG.out.later hl4.below HG.out.lt))
              have HR4 := Lib.hid hb4
              refine hK.out _ _ HB.out ?_
              clear hl4 hb4 hn4 hK K
              clear HR3
              try simp only [Act.put, List.setIfInBounds_toArray, List.set_cons_zero, List.set_cons_succ]
              refine held_call (i := 9) (o := { dst := none, op := Op.store 24 (Operand.tmp 12) (Operand.tmp 35), type := 0, pos := "law.go:143", after := #[{ on := 8, ground := Ground.data }, { on := 7, ground := Ground.data }, { on := 7, ground := Ground.chain }, { on := 0, ground := Ground.phase }, { on := 1, ground := Ground.phase }, { on := 2, ground := Ground.phase }, { on := 3, ground := Ground.phase }, { on := 4, ground := Ground.phase }, { on := 5, ground := Ground.phase }, { on := 6, ground := Ground.phase }, { on := 7, ground := Ground.phase }, { on := 8, ground := Ground.phase }], guard := none }) rfl (by kernel_rfl) (by rfl) (fun K hK => ?_)
              obtain ⟨hgc, hgf⟩ := HG.out
              go_simp
              refine hK.out _ _ (HB.out.setCell hgw _) ?_
              clear hK K
              try simp only [Act.put, List.setIfInBounds_toArray, List.set_cons_zero, List.set_cons_succ]
              refine wpAnyH_done (by kernel_rfl) ?_ _
              clear hgc hgf
              go_wp2_with fail
              go_meet
              exact back_ends HX5.out (Nat.le_of_lt hl) HB.out HR4.out HP.out HG.out hgw
          · skip
            go_simp
            refine alloc_out hK HB.out HB.out.size ?_
            intro wa hb hg hbe
            have hgw := HB.out.size
            have HG : Hid (Box wa _ _) := hg
            try (replace HR1 := Lib.hid (HR1.out.later hbe))
            try (replace HR2 := Lib.hid (HR2.out.later hbe))
            try (replace HR3 := Lib.hid (HR3.out.later hbe))
            try (have HP := Lib.hid (fun ad (e : A4 = some ad) => Nat.ne_of_lt (HR4.out.lt ad e)))
            try (replace HR4 := Lib.hid (HR4.out.later hbe))
            replace HB := Lib.hid hb
            clear hb hg hbe hK K
            try simp only [Act.put, List.setIfInBounds_toArray, List.set_cons_zero, List.set_cons_succ]
            refine held_call (i := 5) (o := { dst := some 33, op := Op.call { callee := Callee.value (Operand.func 28), args := #[Operand.tmp 31, Operand.tmp 32], argTypes := #[24, 32] }, type := 24, pos := "law.go:143", after := #[{ on := 3, ground := Ground.data }, { on := 4, ground := Ground.data }, { on := 3, ground := Ground.chain }], guard := none }) rfl (by kernel_rfl) (by rfl) (fun K hK => ?_)
            go_simp
            refine (pfloat_any y hy HR2.out.rd (by omega)).mono ?_
            rintro e w3 ⟨v3, rfl, hl3⟩
            obtain ⟨A3, n3, c3, rfl, hb3, hn3⟩ := hl3.lb
            have N3 : n3 ≤ 25 := by rw [hn3, List.length_append, eightb_len, HR2.out.rd.1]; omega
            replace HB := Lib.hid (HB.out.trans (hl3.below.mono HB.out.size))
            skip
            try (replace HG := Lib.hid (HG.out.later hl3.below HG.out.lt))
            have HR3 := Lib.hid hb3
            refine hK.out _ _ HB.out ?_
            clear hl3 hb3 hn3 hK K
            clear HR2
            try simp only [Act.put, List.setIfInBounds_toArray, List.set_cons_zero, List.set_cons_succ]
            refine held_call (i := 7) (o := { dst := some 35, op := Op.call { callee := Callee.value (Operand.func 30), args := #[Operand.tmp 33, Operand.tmp 34], argTypes := #[24, 9] }, type := 24, pos := "law.go:143", after := #[{ on := 5, ground := Ground.data }, { on := 6, ground := Ground.data }, { on := 5, ground := Ground.chain }], guard := none }) rfl (by kernel_rfl) (by rfl) (fun K hK => ?_)
            go_simp
            refine (ptext_any t (by omega) HR3.out.rd (by omega)).mono ?_
            rintro e w4 ⟨v4, rfl, hl4⟩
            obtain ⟨A4, n4, c4, rfl, hb4, hn4⟩ := hl4.lb
            skip
            replace HB := Lib.hid (HB.out.trans (hl4.below.mono HB.out.size))
            try (have HP := Lib.hid (hl4.apart HG.out.lt))
            try (replace HG := Lib.hid (HG.out.later hl4.below HG.out.lt))
            have HR4 := Lib.hid hb4
            refine hK.out _ _ HB.out ?_
            clear hl4 hb4 hn4 hK K
            clear HR3
            try simp only [Act.put, List.setIfInBounds_toArray, List.set_cons_zero, List.set_cons_succ]
            refine held_call (i := 9) (o := { dst := none, op := Op.store 24 (Operand.tmp 12) (Operand.tmp 35), type := 0, pos := "law.go:143", after := #[{ on := 8, ground := Ground.data }, { on := 7, ground := Ground.data }, { on := 7, ground := Ground.chain }, { on := 0, ground := Ground.phase }, { on := 1, ground := Ground.phase }, { on := 2, ground := Ground.phase }, { on := 3, ground := Ground.phase }, { on := 4, ground := Ground.phase }, { on := 5, ground := Ground.phase }, { on := 6, ground := Ground.phase }, { on := 7, ground := Ground.phase }, { on := 8, ground := Ground.phase }], guard := none }) rfl (by kernel_rfl) (by rfl) (fun K hK => ?_)
            obtain ⟨hgc, hgf⟩ := HG.out
            go_simp
            refine hK.out _ _ (HB.out.setCell hgw _) ?_
            clear hK K
            try simp only [Act.put, List.setIfInBounds_toArray, List.set_cons_zero, List.set_cons_succ]
            refine wpAnyH_done (by kernel_rfl) ?_ _
            clear hgc hgf
            go_wp2_with fail
            go_meet
            exact back_ends HX5.out (Nat.le_of_lt hl) HB.out HR4.out HP.out HG.out hgw
        · skip
          go_simp
          refine alloc_out hK HB.out HB.out.size ?_
          intro wa hb hg hbe
          have hgw := HB.out.size
          have HG : Hid (Box wa _ _) := hg
          try (replace HR1 := Lib.hid (HR1.out.later hbe))
          try (replace HR2 := Lib.hid (HR2.out.later hbe))
          try (replace HR3 := Lib.hid (HR3.out.later hbe))
          try (have HP := Lib.hid (fun ad (e : A4 = some ad) => Nat.ne_of_lt (HR4.out.lt ad e)))
          try (replace HR4 := Lib.hid (HR4.out.later hbe))
          replace HB := Lib.hid hb
          clear hb hg hbe hK K
          try simp only [Act.put, List.setIfInBounds_toArray, List.set_cons_zero, List.set_cons_succ]
          refine held_call (i := 3) (o := { dst := some 31, op := Op.call { callee := Callee.value (Operand.func 26), args := #[Operand.tmp 29, Operand.tmp 30], argTypes := #[24, 2] }, type := 24, pos := "law.go:143", after := #[{ on := 1, ground := Ground.data }, { on := 2, ground := Ground.data }, { on := 1, ground := Ground.chain }], guard := none }) rfl (by kernel_rfl) (by rfl) (fun K hK => ?_)
          go_simp
          refine (pint_any i HR1.out.rd (by omega)).mono ?_
          rintro e w2 ⟨v2, rfl, hl2⟩
          obtain ⟨A2, n2, c2, rfl, hb2, hn2⟩ := hl2.lb
          have N2 : n2 ≤ 17 := by rw [hn2, List.length_append, eightb_len, HR1.out.rd.1]; omega
          replace HB := Lib.hid (HB.out.trans (hl2.below.mono HB.out.size))
          skip
          try (replace HG := Lib.hid (HG.out.later hl2.below HG.out.lt))
          have HR2 := Lib.hid hb2
          refine hK.out _ _ HB.out ?_
          clear hl2 hb2 hn2 hK K
          clear HR1
          try simp only [Act.put, List.setIfInBounds_toArray, List.set_cons_zero, List.set_cons_succ]
          refine held_call (i := 5) (o := { dst := some 33, op := Op.call { callee := Callee.value (Operand.func 28), args := #[Operand.tmp 31, Operand.tmp 32], argTypes := #[24, 32] }, type := 24, pos := "law.go:143", after := #[{ on := 3, ground := Ground.data }, { on := 4, ground := Ground.data }, { on := 3, ground := Ground.chain }], guard := none }) rfl (by kernel_rfl) (by rfl) (fun K hK => ?_)
          go_simp
          refine (pfloat_any y hy HR2.out.rd (by omega)).mono ?_
          rintro e w3 ⟨v3, rfl, hl3⟩
          obtain ⟨A3, n3, c3, rfl, hb3, hn3⟩ := hl3.lb
          have N3 : n3 ≤ 25 := by rw [hn3, List.length_append, eightb_len, HR2.out.rd.1]; omega
          replace HB := Lib.hid (HB.out.trans (hl3.below.mono HB.out.size))
          skip
          try (replace HG := Lib.hid (HG.out.later hl3.below HG.out.lt))
          have HR3 := Lib.hid hb3
          refine hK.out _ _ HB.out ?_
          clear hl3 hb3 hn3 hK K
          clear HR2
          try simp only [Act.put, List.setIfInBounds_toArray, List.set_cons_zero, List.set_cons_succ]
          refine held_call (i := 7) (o := { dst := some 35, op := Op.call { callee := Callee.value (Operand.func 30), args := #[Operand.tmp 33, Operand.tmp 34], argTypes := #[24, 9] }, type := 24, pos := "law.go:143", after := #[{ on := 5, ground := Ground.data }, { on := 6, ground := Ground.data }, { on := 5, ground := Ground.chain }], guard := none }) rfl (by kernel_rfl) (by rfl) (fun K hK => ?_)
          go_simp
          refine (ptext_any t (by omega) HR3.out.rd (by omega)).mono ?_
          rintro e w4 ⟨v4, rfl, hl4⟩
          obtain ⟨A4, n4, c4, rfl, hb4, hn4⟩ := hl4.lb
          skip
          replace HB := Lib.hid (HB.out.trans (hl4.below.mono HB.out.size))
          try (have HP := Lib.hid (hl4.apart HG.out.lt))
          try (replace HG := Lib.hid (HG.out.later hl4.below HG.out.lt))
          have HR4 := Lib.hid hb4
          refine hK.out _ _ HB.out ?_
          clear hl4 hb4 hn4 hK K
          clear HR3
          try simp only [Act.put, List.setIfInBounds_toArray, List.set_cons_zero, List.set_cons_succ]
          refine held_call (i := 9) (o := { dst := none, op := Op.store 24 (Operand.tmp 12) (Operand.tmp 35), type := 0, pos := "law.go:143", after := #[{ on := 8, ground := Ground.data }, { on := 7, ground := Ground.data }, { on := 7, ground := Ground.chain }, { on := 0, ground := Ground.phase }, { on := 1, ground := Ground.phase }, { on := 2, ground := Ground.phase }, { on := 3, ground := Ground.phase }, { on := 4, ground := Ground.phase }, { on := 5, ground := Ground.phase }, { on := 6, ground := Ground.phase }, { on := 7, ground := Ground.phase }, { on := 8, ground := Ground.phase }], guard := none }) rfl (by kernel_rfl) (by rfl) (fun K hK => ?_)
          obtain ⟨hgc, hgf⟩ := HG.out
          go_simp
          refine hK.out _ _ (HB.out.setCell hgw _) ?_
          clear hK K
          try simp only [Act.put, List.setIfInBounds_toArray, List.set_cons_zero, List.set_cons_succ]
          refine wpAnyH_done (by kernel_rfl) ?_ _
          clear hgc hgf
          go_wp2_with fail
          go_meet
          exact back_ends HX5.out (Nat.le_of_lt hl) HB.out HR4.out HP.out HG.out hgw
      · skip
        go_simp
        refine alloc_out hK HB.out HB.out.size ?_
        intro wa hb hg hbe
        have hgw := HB.out.size
        have HG : Hid (Box wa _ _) := hg
        try (replace HR1 := Lib.hid (HR1.out.later hbe))
        try (replace HR2 := Lib.hid (HR2.out.later hbe))
        try (replace HR3 := Lib.hid (HR3.out.later hbe))
        try (have HP := Lib.hid (fun ad (e : A4 = some ad) => Nat.ne_of_lt (HR4.out.lt ad e)))
        try (replace HR4 := Lib.hid (HR4.out.later hbe))
        replace HB := Lib.hid hb
        clear hb hg hbe hK K
        try simp only [Act.put, List.setIfInBounds_toArray, List.set_cons_zero, List.set_cons_succ]
        refine held_call (i := 1) (o := { dst := some 29, op := Op.call { callee := Callee.value (Operand.func 19), args := #[Operand.const (Value.slice none 0 0), Operand.tmp 28], argTypes := #[24, 3] }, type := 24, pos := "law.go:143", after := #[{ on := 0, ground := Ground.data }], guard := none }) rfl (by kernel_rfl) (by rfl) (fun K hK => ?_)
        go_simp
        refine (pnat_any (q : Int) (rd_nil _) (by omega)).mono ?_
        rintro e w1 ⟨v1, rfl, hl1⟩
        rw [natw_nat hq, List.nil_append] at hl1
        obtain ⟨A1, n1, c1, rfl, hb1, hn1⟩ := hl1.lb
        have N1 : n1 ≤ 9 := by have := natb_len9 hq; omega
        replace HB := Lib.hid (HB.out.trans (hl1.below.mono HB.out.size))
        skip
        try (replace HG := Lib.hid (HG.out.later hl1.below HG.out.lt))
        have HR1 := Lib.hid hb1
        refine hK.out _ _ HB.out ?_
        clear hl1 hb1 hn1 hK K
        try simp only [Act.put, List.setIfInBounds_toArray, List.set_cons_zero, List.set_cons_succ]
        refine held_call (i := 3) (o := { dst := some 31, op := Op.call { callee := Callee.value (Operand.func 26), args := #[Operand.tmp 29, Operand.tmp 30], argTypes := #[24, 2] }, type := 24, pos := "law.go:143", after := #[{ on := 1, ground := Ground.data }, { on := 2, ground := Ground.data }, { on := 1, ground := Ground.chain }], guard := none }) rfl (by kernel_rfl) (by rfl) (fun K hK => ?_)
        go_simp
        refine (pint_any i HR1.out.rd (by omega)).mono ?_
        rintro e w2 ⟨v2, rfl, hl2⟩
        obtain ⟨A2, n2, c2, rfl, hb2, hn2⟩ := hl2.lb
        have N2 : n2 ≤ 17 := by rw [hn2, List.length_append, eightb_len, HR1.out.rd.1]; omega
        replace HB := Lib.hid (HB.out.trans (hl2.below.mono HB.out.size))
        skip
        try (replace HG := Lib.hid (HG.out.later hl2.below HG.out.lt))
        have HR2 := Lib.hid hb2
        refine hK.out _ _ HB.out ?_
        clear hl2 hb2 hn2 hK K
        clear HR1
        try simp only [Act.put, List.setIfInBounds_toArray, List.set_cons_zero, List.set_cons_succ]
        refine held_call (i := 5) (o := { dst := some 33, op := Op.call { callee := Callee.value (Operand.func 28), args := #[Operand.tmp 31, Operand.tmp 32], argTypes := #[24, 32] }, type := 24, pos := "law.go:143", after := #[{ on := 3, ground := Ground.data }, { on := 4, ground := Ground.data }, { on := 3, ground := Ground.chain }], guard := none }) rfl (by kernel_rfl) (by rfl) (fun K hK => ?_)
        go_simp
        refine (pfloat_any y hy HR2.out.rd (by omega)).mono ?_
        rintro e w3 ⟨v3, rfl, hl3⟩
        obtain ⟨A3, n3, c3, rfl, hb3, hn3⟩ := hl3.lb
        have N3 : n3 ≤ 25 := by rw [hn3, List.length_append, eightb_len, HR2.out.rd.1]; omega
        replace HB := Lib.hid (HB.out.trans (hl3.below.mono HB.out.size))
        skip
        try (replace HG := Lib.hid (HG.out.later hl3.below HG.out.lt))
        have HR3 := Lib.hid hb3
        refine hK.out _ _ HB.out ?_
        clear hl3 hb3 hn3 hK K
        clear HR2
        try simp only [Act.put, List.setIfInBounds_toArray, List.set_cons_zero, List.set_cons_succ]
        refine held_call (i := 7) (o := { dst := some 35, op := Op.call { callee := Callee.value (Operand.func 30), args := #[Operand.tmp 33, Operand.tmp 34], argTypes := #[24, 9] }, type := 24, pos := "law.go:143", after := #[{ on := 5, ground := Ground.data }, { on := 6, ground := Ground.data }, { on := 5, ground := Ground.chain }], guard := none }) rfl (by kernel_rfl) (by rfl) (fun K hK => ?_)
        go_simp
        refine (ptext_any t (by omega) HR3.out.rd (by omega)).mono ?_
        rintro e w4 ⟨v4, rfl, hl4⟩
        obtain ⟨A4, n4, c4, rfl, hb4, hn4⟩ := hl4.lb
        skip
        replace HB := Lib.hid (HB.out.trans (hl4.below.mono HB.out.size))
        try (have HP := Lib.hid (hl4.apart HG.out.lt))
        try (replace HG := Lib.hid (HG.out.later hl4.below HG.out.lt))
        have HR4 := Lib.hid hb4
        refine hK.out _ _ HB.out ?_
        clear hl4 hb4 hn4 hK K
        clear HR3
        try simp only [Act.put, List.setIfInBounds_toArray, List.set_cons_zero, List.set_cons_succ]
        refine held_call (i := 9) (o := { dst := none, op := Op.store 24 (Operand.tmp 12) (Operand.tmp 35), type := 0, pos := "law.go:143", after := #[{ on := 8, ground := Ground.data }, { on := 7, ground := Ground.data }, { on := 7, ground := Ground.chain }, { on := 0, ground := Ground.phase }, { on := 1, ground := Ground.phase }, { on := 2, ground := Ground.phase }, { on := 3, ground := Ground.phase }, { on := 4, ground := Ground.phase }, { on := 5, ground := Ground.phase }, { on := 6, ground := Ground.phase }, { on := 7, ground := Ground.phase }, { on := 8, ground := Ground.phase }], guard := none }) rfl (by kernel_rfl) (by rfl) (fun K hK => ?_)
        obtain ⟨hgc, hgf⟩ := HG.out
        go_simp
        refine hK.out _ _ (HB.out.setCell hgw _) ?_
        clear hK K
        try simp only [Act.put, List.setIfInBounds_toArray, List.set_cons_zero, List.set_cons_succ]
        refine wpAnyH_done (by kernel_rfl) ?_ _
        clear hgc hgf
        go_wp2_with fail
        go_meet
        exact back_ends HX5.out (Nat.le_of_lt hl) HB.out HR4.out HP.out HG.out hgw
    case rest =>
      obtain ⟨g, A, nb, cb, rfl, hG, hR, hcb, hap, hX, hg4⟩ := hcut
      have HX6 := Lib.hid hX
      have HG := Lib.hid hG
      have HR := Lib.hid hR
      have HAP := Lib.hid hap
      clear hG hR hap hX c0 c1 c2 c3 HX5 hl
      rename World => wy
      go_upto_region 8 with fail
      have HBf : Hid (Box (wy.alloc (.cells #[.bool false] 4)) wy.heap.size (.bool false)) := box_new wy _ _
      have HX7 := Lib.hid (HX6.out.later (one_more wy (.cells #[.bool false] 4)))
      have HG7 := Lib.hid (HG.out.later (one_more wy (.cells #[.bool false] 4)) HG.out.lt)
      have HR7 := Lib.hid (HR.out.later (one_more wy (.cells #[.bool false] 4)))
      have hsz : (wy.alloc (.cells #[.bool false] 4)).heap.size = wy.heap.size + 1 := by simp
      have hg7 := HG.out.lt
      have hap7 : Hid (∀ ad, A = some ad → ad.block < (wy.alloc (.cells #[.bool false] 4)).heap.size) := fun ad e => by have := (HAP.out ad e).1; omega
      have HSZ : Hid (wy.heap.size < (wy.alloc (.cells #[.bool false] 4)).heap.size) := by rw [hsz]; exact Nat.lt_succ_self _
      clear HX6 HG HR HAP hsz
      generalize wy.alloc (.cells #[.bool false] 4) = wz at HBf HX7 HG7 HR7 hap7 HSZ ⊢
      generalize wy.heap.size = pf at HBf hg7 HSZ ⊢
      obtain ⟨hcg, -⟩ := HG7.out
      have hmf : ∀ (fn : Fn) (first cap : Array Value) (w : World), (Instr.makeFunc fn first cap).run Try.prog w = .ok (.func fn first cap) w := fun _ _ _ _ => rfl
      go_wp2_with fail
      refine (back_read HR7.out hcb hap7.out hq hi1 hi2 hy ht HG7.out HX7.out HBf.out hg4 hg7).mono ?_
      rintro e wr ⟨rfl, hbf, hbw⟩
      have HBf2 := Lib.hid hbf
      have HBw := Lib.hid hbw
      clear hbf hbw HR7 HX7 HG7 hap7 HBf hcg
      go_wp2_with fail
      refine (known_any wr).mono ?_
      rintro e wk ⟨rfl, hbk⟩
      obtain ⟨hcf, -⟩ := HBf2.out.later hbk HBf2.out.lt
      have HBk := Lib.hid (HBw.out.trans (hbk.mono HBw.out.size))
      clear hbk HBw HBf2
      go_wp2_with fail
      go_ret
      exact ⟨rfl, HBk.out⟩
theorem packback_below (w : World) (n : Int) (_ : (Lit.int .i64 n).wf = true) (i : Int) (hi : (Lit.int .i64 i).wf = true) (x : Nat) (hx : (Lit.float .f64 x).wf = true) (s : ByteArray) (hs : s.size ≤ 140737488351232) (B : Option Addr) (len cap : Nat) (zs : List Int) (hr : IsRow .i64 w B len cap zs) :
    Calls Try.prog 6 #[.int .i64 n, .int .i64 i, .float .f64 x, .string s, .slice B len cap] w fun e w' => e = .returned (.bool true) ∧ Below w.heap.size w w' :=
  packback_walk w n i (i64_range hi).1 (i64_range hi).2 x (f64_range hx) s hs B len cap hr.draws
end Go.Proofs.Ytkapdefghigdoaa
