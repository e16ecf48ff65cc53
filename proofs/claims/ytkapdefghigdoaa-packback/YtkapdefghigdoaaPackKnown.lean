
/- PackKnown: the walk of the whole. -/
import Derived.Test.YtkapdefghigdoaaPackKnownFns
namespace Go.Proofs.Ytkapdefghigdoaa
open Go.RowKit

theorem rd_lit1 (w : World) (a : Nat) : Rd (w.alloc (.cells #[bcell a] 5)) (some ⟨w.heap.size, 0, none⟩) 1 1 [a] := by
  refine ⟨rfl, .inr ⟨w.heap.size, 0, rfl, fun j u hj => ?_⟩⟩
  rw [Nat.zero_add, World.cell?_alloc_new]
  have hl : j < 1 := (List.getElem?_eq_some_iff.1 hj).1
  match j, hl with
  | 0, _ => cases hj; rfl
theorem rd_lit2 (w : World) (a b : Nat) : Rd (w.alloc (.cells #[bcell a, bcell b] 5)) (some ⟨w.heap.size, 0, none⟩) 2 2 [a, b] := by
  refine ⟨rfl, .inr ⟨w.heap.size, 0, rfl, fun j u hj => ?_⟩⟩
  rw [Nat.zero_add, World.cell?_alloc_new]
  have hl : j < 2 := (List.getElem?_eq_some_iff.1 hj).1
  match j, hl with
  | 0, _ | 1, _ => cases hj; rfl
theorem rd_lit3 (w : World) (a b c : Nat) : Rd (w.alloc (.cells #[bcell a, bcell b, bcell c] 5)) (some ⟨w.heap.size, 0, none⟩) 3 3 [a, b, c] := by
  refine ⟨rfl, .inr ⟨w.heap.size, 0, rfl, fun j u hj => ?_⟩⟩
  rw [Nat.zero_add, World.cell?_alloc_new]
  have hl : j < 3 := (List.getElem?_eq_some_iff.1 hj).1
  match j, hl with
  | 0, _ | 1, _ | 2, _ => cases hj; rfl
theorem lit_lt (w : World) (o : Obj) : ∀ ad, some (⟨w.heap.size, 0, none⟩ : Addr) = some ad → ad.block < (w.alloc o).heap.size := by
  intro ad e
  cases e
  simp
theorem alloc_kept {S : Nat → Prop} {W w w' : World} (o : Obj) {k : Nat} (h : Kept S (w.alloc o) w') (hb : Below k W w) (hk : k ≤ w.heap.size) (hs : ∀ i, i < k → ¬ S i) : Below k W w' :=
  (hb.alloc hk o).trans (h.below (by simp; omega) hs)

theorem conv_all {w : World} {A : Option Addr} {n c : Nat} {l : List Nat} (h : Rd w A n c l) : (convert 24 9 (.slice A n c)).run Try.prog w = .ok (.string (tstr l)) w := by
  obtain ⟨rfl, h⟩ := h
  rcases h with ⟨rfl, h0, rfl⟩ | ⟨rb, ro, rfl, hc⟩
  · have e : l = [] := List.eq_nil_of_length_eq_zero h0
    subst e
    exact run_convert_bytes_nil w 24 5 Try.underlying24 Try.underlying5 0 0 9 Try.underlying9
  · refine run_convert_bytes_arg w 24 5 Try.underlying24 Try.underlying5 rb ro l.length _ (l.map (fun b : Nat => (b : Int))) (by simp) (fun i hi => ?_) 9 Try.underlying9
    rw [hc i _ (List.getElem?_eq_getElem hi)]
    simp [hi]
theorem Laid.reads' {W0 w : World} {v : Value} {l : List Nat} (h : Laid W0 w v l) : ∃ A n c, v = .slice A n c ∧ Rd w A n c l := by
  obtain ⟨A, c, e, hr⟩ := h.reads
  exact ⟨A, _, c, e, hr⟩
theorem rd_nil (w : World) : Rd w none 0 0 [] := ⟨rfl, .inl ⟨rfl, rfl, rfl⟩⟩
theorem natb_ge (k n : Nat) (h : 128 ^ k ≤ n) : k + 1 ≤ (natb n).length := by
  induction k generalizing n with
  | zero => exact natb_pos n
  | succ k ih =>
    rw [Nat.pow_succ] at h
    have hp : 1 ≤ 128 ^ k := Nat.pow_pos (by omega)
    rw [natb_big (by omega), List.length_cons]
    have := ih (n / 128) ((Nat.le_div_iff_mul_le (by omega)).2 h)
    omega
theorem natw_300 : [] ++ natw 300 = [172, 2] := by
  unfold natw
  rw [if_pos (by omega)]
  show natb 300 = _
  rw [natb_big (by omega), natb_small (by omega)]
theorem natw_neg : ([] : List Nat) ++ natw (-1) = [] := by
  unfold natw
  rw [if_neg (by omega)]
  rfl
theorem natw_long (q : Nat) (h1 : 72057594037927936 ≤ q) (h2 : q ≤ 4611686018427387904) (z : Int) (hz : z = (q : Int)) : (([] : List Nat) ++ natw z).length = 9 := by
  subst hz
  unfold natw
  rw [if_pos (by omega), Int.toNat_natCast, List.nil_append]
  have h1 := natb_len 8 q (by have : (128 : Nat) ^ 9 = 9223372036854775808 := by decide
                              omega)
  have h2 := natb_ge 8 q (by have : (128 : Nat) ^ 8 = 72057594037927936 := by decide
                             omega)
  omega
theorem natw_most : (([] : List Nat) ++ natw 4611686018427387904).length = 9 := natw_long 4611686018427387904 (by omega) (by omega) _ (by omega)
theorem k1 : readAns (natErr [128]) ([128].drop (natTaken [128])) = 2 ∧ (if natErr [128] = 0 then ((natVal [128] : Nat) : Int) else 0) = 0 := by decide +kernel
theorem k2 : readAns (natErr [128, 0]) ([128, 0].drop (natTaken [128, 0])) = 3 ∧ (if natErr [128, 0] = 0 then ((natVal [128, 0] : Nat) : Int) else 0) = 0 := by decide +kernel
theorem k3 : readAns (natErr [172, 2]) ([172, 2].drop (natTaken [172, 2])) = 0 ∧ (if natErr [172, 2] = 0 then ((natVal [172, 2] : Nat) : Int) else 0) = 300 := by decide +kernel
theorem k5 : readAns (textErr [2, 104, 105] 1) ([2, 104, 105].drop (textTaken [2, 104, 105])) = 3 ∧ ¬ textErr [2, 104, 105] 1 = 0 := by decide +kernel
theorem k6 : readAns (textErr [2, 104, 105] 2) ([2, 104, 105].drop (textTaken [2, 104, 105])) = 0 ∧ textErr [2, 104, 105] 2 = 0 := by decide +kernel
theorem k6t : textVal [2, 104, 105] = ⟨#[104, 105]⟩ := by
  have h1 : natTaken [2, 104, 105] = 1 := by decide +kernel
  have h2 : natVal [2, 104, 105] = 2 := by decide +kernel
  unfold textVal
  rw [h1, h2]
  rfl
theorem k300 : tstr [172, 2] = ⟨#[172, 2]⟩ := rfl

/-- What the walk carries: the cells, and that nothing that was there has turned. -/
structure Ks (w w' : World) (p : Nat) (v : Value) : Prop where
  box : Box w' p v
  below : Below w.heap.size w w'
  le : w.heap.size ≤ p
theorem Ks.size {w w' : World} {p : Nat} {v : Value} (h : Ks w w' p v) : w.heap.size < w'.heap.size := by have := h.box.lt; have := h.le; omega
theorem Ks.alloc {w w' : World} {p : Nat} {v : Value} (h : Ks w w' p v) (o : Obj) : Ks w (w'.alloc o) p v :=
  ⟨h.box.later (one_more w' o) h.box.lt, h.below.alloc (Nat.le_of_lt h.size) o, h.le⟩
theorem Ks.keep {w w' w2 : World} {p : Nat} {v u : Value} (h : Ks w w' p v) (k : Kept (· = p) w' w2) (b : Box w2 p u) : Ks w w2 p u :=
  ⟨b, h.below.trans (k.below (Nat.le_of_lt h.size) (fun i hi e => by have := h.le; omega)), h.le⟩
theorem Ks.other {w w' w2 : World} {p q : Nat} {v : Value} (h : Ks w w' p v) (k : Kept (· = q) w' w2) (hq : w.heap.size ≤ q) (hpq : ¬ p = q) : Ks w w2 p v :=
  ⟨h.box.kept k hpq, h.below.trans (k.below (Nat.le_of_lt h.size) (fun i hi e => by omega)), h.le⟩
theorem Ks.later {w w' w2 : World} {p : Nat} {v : Value} (h : Ks w w' p v) (k : Below w'.heap.size w' w2) : Ks w w2 p v :=
  ⟨h.box.later k h.box.lt, h.below.trans (k.mono (Nat.le_of_lt h.size)), h.le⟩

set_option maxRecDepth 100000 in
set_option maxHeartbeats 4000000 in
theorem pknown_any (w : World) : Calls Try.prog 3 #[] w fun e w' => e = .returned (.bool true) ∧ Below w.heap.size w w' := by
  have hmf : ∀ (fn : Fn) (first cap : Array Value) (w : World), (Instr.makeFunc fn first cap).run Try.prog w = .ok (.func fn first cap) w := fun _ _ _ _ => rfl
  have K0 : Hid (Ks w (w.alloc (.cells #[.int .i64 0] 3)) w.heap.size (.int .i64 0)) := ⟨box_new w _ _, one_more w _, Nat.le_refl _⟩
  go_enter Try.func3, Try.ntmps3
  go_upto_region 2 with fail
  generalize w.alloc (.cells #[.int .i64 0] 3) = W at K0 ⊢
  go_wp2_with fail
  refine (known1_read (rd_lit1 W 128) (by omega) (by omega) (lit_lt W _) (K0.out.alloc _).box).mono ?_
  rintro e w1 ⟨rfl, hb, hk⟩
  rw [k1.1]
  rw [k1.2] at hb
  have K1 := Lib.hid ((K0.out.alloc _).keep hk hb)
  clear hb hk K0
  go_wp2_with fail
  refine (known2_read (rd_lit2 w1 128 0) (by omega) (by omega) (lit_lt w1 _) (K1.out.alloc _).box).mono ?_
  rintro e w2 ⟨rfl, hb, hk⟩
  rw [k2.1]
  rw [k2.2] at hb
  have K2 := Lib.hid ((K1.out.alloc _).keep hk hb)
  clear hb hk K1
  go_wp2_with fail
  refine (known3_read (rd_lit2 w2 172 2) (by omega) (by omega) (lit_lt w2 _) (K2.out.alloc _).box).mono ?_
  rintro e w3 ⟨rfl, hb, hk⟩
  rw [k3.1]
  rw [k3.2] at hb
  have K3 := Lib.hid ((K2.out.alloc _).keep hk hb)
  clear hb hk K2
  go_wp2_with fail
  refine (read_nil (rd_lit1 w3 1)).mono ?_
  rintro e w4 ⟨rfl, hb⟩
  rw [show readAns 0 [1] = 3 from rfl]
  have K4 := Lib.hid ((K3.out.alloc _).later hb)
  clear hb K3
  go_wp2_with fail
  refine (read_nil (rd_nil w4)).mono ?_
  rintro e w5 ⟨rfl, hb⟩
  rw [show readAns 0 [] = 0 from rfl]
  have K5 := Lib.hid (K4.out.later hb)
  clear hb K4
  go_wp2_with fail
  refine (known4_read (rd_lit3 w5 1 2 3) (by omega) (by omega) (lit_lt w5 _) (by decide)).mono ?_
  rintro e w6 ⟨rfl, hb⟩
  have K6 := Lib.hid ((K5.out.alloc _).later hb)
  clear hb K5
  go_upto_region 9 with fail
  have hw6 := K6.out.size
  have J6 : Hid (Ks w (w6.alloc (.cells #[.string ⟨#[]⟩] 9)) w6.heap.size (.string ⟨#[]⟩)) := ⟨box_new w6 _ _, K6.out.below.alloc (Nat.le_of_lt hw6) _, Nat.le_of_lt hw6⟩
  have hpq : ¬ w.heap.size = w6.heap.size := by omega
  have K7 := Lib.hid (K6.out.alloc (.cells #[.string ⟨#[]⟩] 9))
  clear K6
  generalize w6.alloc (.cells #[.string ⟨#[]⟩] 9) = w7 at K7 J6 ⊢
  go_wp2_with fail
  refine (known5_read (rd_lit3 w7 2 104 105) (by omega) (by omega) (lit_lt w7 _) (J6.out.alloc _).box).mono ?_
  rintro e w8 ⟨rfl, hb, hk⟩
  rw [k5.1]
  rw [if_neg k5.2] at hb
  have J8 := Lib.hid ((J6.out.alloc _).keep hk hb)
  have K8 := Lib.hid ((K7.out.alloc _).other hk (Nat.le_of_lt hw6) hpq)
  clear hb hk K7 J6
  go_wp2_with fail
  refine (known6_read (rd_lit3 w8 2 104 105) (by omega) (by omega) (lit_lt w8 _) (J8.out.alloc _).box).mono ?_
  rintro e w9 ⟨rfl, hb, hk⟩
  rw [k6.1]
  rw [if_pos k6.2, k6t] at hb
  have J9 := Lib.hid ((J8.out.alloc _).keep hk hb)
  have K9 := Lib.hid ((K8.out.alloc _).other hk (Nat.le_of_lt hw6) hpq)
  clear hb hk K8 J8
  go_wp2_with fail
  refine (pnat_any 300 (rd_nil w9) (by omega)).mono ?_
  rintro e w10 ⟨v10, rfl, hl⟩
  rw [natw_300] at hl
  obtain ⟨A10, n10, c10, rfl, hr⟩ := hl.reads'
  have hconv := conv_all hr
  rw [k300] at hconv
  have J10 := Lib.hid (J9.out.later hl.below)
  have K10 := Lib.hid (K9.out.later hl.below)
  have hn := K10.out.box.1
  have hs := J10.out.box.1
  clear hl hr K9 J9
  go_wp2_with fail
  refine (pnat_any (-1) (rd_nil w10) (by omega)).mono ?_
  rintro e w11 ⟨v11, rfl, hl⟩
  rw [natw_neg] at hl
  obtain ⟨A11, c11, rfl, hr⟩ := hl.reads
  have K11 := Lib.hid (K10.out.later hl.below)
  clear hl hr K10 J10 hn hs hconv
  go_wp2_with fail
  refine (pnat_any 4611686018427387904 (rd_nil w11) (by omega)).mono ?_
  rintro e w12 ⟨v12, rfl, hl⟩
  obtain ⟨A12, c12, rfl, hr⟩ := hl.reads
  rw [natw_most]
  have K12 := Lib.hid (K11.out.later hl.below)
  clear hl hr K11
  go_wp2_with fail
  go_ret
  exact ⟨rfl, K12.out.below⟩

end Go.Proofs.Ytkapdefghigdoaa
