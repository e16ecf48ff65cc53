/- G9: Bytes, RefPack, PackMake in one text. -/
import Derived.Test.YtgenmebmdpnjhaaGreatG1b
import Derived.Test.YtgenmebmdpnjhaaGreatG1a
import Derived.Lib.BufSteps
import Derived.Laws.BytesArg
import Derived.Laws.IdiomStrings
import Derived.Handy
import Derived.Laws.MakeOwn
import Derived.Laws.Bits128
namespace Go.Proofs.YtgenmebmdpnjhaaGreat
open Go.RowKit

theorem info_byte : (Tryz.prog.info? 5).map (fun i => (i.zero, i.size, i.bytes)) = some (some (.int .u8 0), 1, 1) := by kernel_rfl
theorem byte_info : ∃ i, Tryz.prog.info? 5 = some i ∧ i.zero = some (.int .u8 0) ∧ i.size = 1 ∧ i.bytes = 1 := by
  obtain ⟨i, hi, he⟩ := Option.map_eq_some_iff.1 info_byte
  simp only [Prod.mk.injEq] at he
  exact ⟨i, hi, he.1, he.2.1, he.2.2⟩

abbrev bcell (b : Nat) : Value := .int .u8 (b : Int)
theorem add_at (g o j : Nat) : (⟨g, o, none⟩ : Addr).add j = ⟨g, o + j, none⟩ := by unfold Addr.add; split <;> simp_all
/-- A slice of bytes that reads so. -/
def Rd (w : World) (A : Option Addr) (n c : Nat) (l : List Nat) : Prop :=
  l.length = n ∧ ((A = none ∧ n = 0 ∧ c = 0) ∨ ∃ rb ro, A = some ⟨rb, ro, none⟩ ∧ ∀ j u, l[j]? = some u → w.cell? ⟨rb, ro + j, none⟩ = some (bcell u))
/-- A slice v of the call's own, made since W0, that reads so; nothing else of W0 has turned. -/
def Laid (W0 w : World) (v : Value) (l : List Nat) : Prop := Lib.OwnBuf W0.heap.size 5 v l.length (l.map bcell) W0 w

theorem Laid.below {W0 w : World} {v : Value} {l : List Nat} (h : Laid W0 w v l) : Below W0.heap.size W0 w := h.2.1
/-- What is laid can be read. -/
theorem Laid.reads {W0 w : World} {v : Value} {l : List Nat} (h : Laid W0 w v l) : ∃ A c, v = .slice A l.length c ∧ Rd w A l.length c l := by
  rcases h.1.2 with ⟨rfl, h0⟩ | ⟨g, cap, cur, fz, rfl, hb, hg, hfz, hn, hm, hs, ht⟩
  · exact ⟨none, 0, by rw [h0], rfl, .inl ⟨rfl, h0, rfl⟩⟩
  · refine ⟨_, _, rfl, rfl, .inr ⟨g, 0, rfl, fun j u hj => ?_⟩⟩
    rw [← add_at]
    exact h.1.cells (g := g) rfl j _ (by rw [List.getElem?_map, hj]; rfl)
theorem Rd.later {w w' : World} {A : Option Addr} {n c : Nat} {l : List Nat} (h : Rd w A n c l) (hb : Below w.heap.size w w') : Rd w' A n c l := by
  refine ⟨h.1, ?_⟩
  rcases h.2 with h0 | ⟨rb, ro, e, hc⟩
  · exact .inl h0
  · exact .inr ⟨rb, ro, e, fun j u hj => by have hh := hc j u hj; rw [hb.cell (World.block_lt_of_cell? w _ hh)]; exact hh⟩

/-- '[]byte{}', and nil. -/
theorem laid_empty (w : World) : Laid w (w.alloc (.cells #[] 5)) (.slice (some ⟨w.heap.size, 0, none⟩) 0 0) [] := by
  refine ⟨⟨rfl, .inr ⟨w.heap.size, 0, #[], (0, 0), rfl, Nat.le_refl _, heap_alloc_new _ _, Nat.zero_le _, Nat.le_refl _, Nat.zero_le _, rfl, rfl⟩⟩, (Below.refl _ _).alloc (Nat.le_refl _) _, by simp⟩
theorem laid_nil (w : World) : Laid w w (.slice none 0 0) [] := ⟨World.ownsRowF_nil _ _ _ _, Below.refl _ _, Nat.le_refl _⟩

theorem append_none_run {w : World} {B : Nat} {v : Value} {n : Nat} {xs : List Value} (ty : TypeId) (hown : w.ownsRowF B 5 1 v n xs) : (Builtin.append_ #[23, 23] ty #[v, .slice none 0 0]).run Tryz.prog w = .ok v w := by
  obtain ⟨i, hi, _, _, _⟩ := byte_info
  rcases hown.2 with ⟨rfl, rfl⟩ | ⟨g, cap, cur, fz, rfl, _, _, _, hnc, _⟩
  · simp [Builtin.append_, run_underlying Tryz.underlying23, sizeOf, typeInfo, hi, Builtin.lenOf, Builtin.firstCells]
  · simp [Builtin.append_, run_underlying Tryz.underlying23, sizeOf, typeInfo, hi, Builtin.lenOf, Builtin.firstCells, hnc, storeCells]

/-- 'append(buf, b...)'. -/
theorem wpList_lay {w W0 : World} {ops : Array Oper} {rest : List Oper} {o : Oper} {a : Act} {Q : Exit → Act → World → Prop} (hgd : o.guard = none) (s x : Operand)
    (ho : o.op = .call { callee := .builtin .append, args := #[s, x], argTypes := #[23, 23] })
    (v : Value) (l : List Nat) (hs : a.eval s = v) (hb : Laid W0 w v l) (A : Option Addr) (m c : Nat) (news : List Nat) (hx : a.eval x = .slice A m c) (hr : Rd w A m c news) (hlen : l.length + m ≤ 1000000)
    (h : ∀ v' w', Laid W0 w' v' (l ++ news) → wpList Tryz.prog ops Q rest (a.put o.dst v') w') : wpList Tryz.prog ops Q (o :: rest) a w := by
  obtain ⟨rfl, hr⟩ := hr
  rcases hr with ⟨rfl, h0, rfl⟩ | ⟨rb, ro, rfl, hc⟩
  · have e0 : news = [] := List.eq_nil_of_length_eq_zero h0
    subst e0
    rw [List.append_nil] at h
    refine wpList_plain hgd fun K hK => ?_
    have hrun := append_none_run (w := w) o.type hb.1
    have hx' : a.eval x = .slice none 0 0 := hx
    unfold Oper.wp execOp
    simp only [ho, resolve, invoke, builtin, Sem.run_bind, Sem.run_pure, Result.andThen_ok, List.map_toArray, List.map_cons, List.map_nil, hs, hx', hrun]
    exact hK _ _ (h v w hb)
  · obtain ⟨i, hi, hz, h1, h2⟩ := byte_info
    refine wpList_append_ownF w hgd s x 23 ho W0.heap.size 5 i (.int .u8 0) 1 1 Tryz.underlying23 hi hz h1 h2 rfl (by decide) v l.length (l.map bcell) hs hb.1 ⟨rb, ro, none⟩ news.length c (news.map bcell) hx (by simp) ?_ ?_ (by unfold maxLen; omega) (by omega) hb.2.2 ?_
    · intro j u hj
      rw [List.getElem?_map] at hj
      obtain ⟨b, hb', rfl⟩ := Option.map_eq_some_iff.1 hj
      rw [add_at]
      exact hc j b hb'
    · intro u hu
      obtain ⟨b, _, rfl⟩ := List.mem_map.1 hu
      rfl
    · intro v' w' ho' hg _
      refine h v' w' ?_
      have := hb.grown ho' hg
      unfold Laid
      rw [List.length_append, List.map_append]
      exact this

/-- 'append(buf, c)'. -/
theorem wpList_lay1 {w W0 : World} {ops : Array Oper} {rest : List Oper} {o : Oper} {a : Act} {Q : Exit → Act → World → Prop} (hgd : o.guard = none) (s x : Operand)
    (ho : o.op = .call { callee := .builtin .append, args := #[s, x], argTypes := #[23, 23] })
    (v : Value) (l : List Nat) (hs : a.eval s = v) (hb : Laid W0 w v l) (z : Int) (b : Nat) (hz : z = (b : Int)) (hx : a.eval x = .slice (some ⟨w.heap.size, 0, none⟩) 1 1) (hlen : l.length ≤ 1000000)
    (h : ∀ v' w', Laid W0 w' v' (l ++ [b]) → wpList Tryz.prog ops Q rest (a.put o.dst v') w') : wpList Tryz.prog ops Q (o :: rest) a (w.alloc (.cells #[.int .u8 z] 5)) := by
  obtain ⟨i, hi, hz', h1, h2⟩ := byte_info
  subst hz
  refine Lib.wpList_append_byte hgd s x 23 ho W0.heap.size 5 i Tryz.underlying23 hi hz' h1 h2 v l.length (l.map bcell) hs W0 w (b : Int) hb hx (by omega) ?_
  intro v' w' hb'
  refine h v' w' ?_
  unfold Laid
  rw [List.length_append, List.map_append]
  exact hb'

/-- A number by seven bits a byte. -/
def natb (n : Nat) : List Nat := if n < 128 then [n] else (n % 128 + 128) :: natb (n / 128)
theorem natb_small {n : Nat} (h : n < 128) : natb n = [n] := by rw [natb, if_pos h]
theorem natb_big {n : Nat} (h : 128 ≤ n) : natb n = (n % 128 + 128) :: natb (n / 128) := by rw [natb, if_neg (by omega)]
theorem natb_len (k n : Nat) (h : n < 128 ^ (k + 1)) : (natb n).length ≤ k + 1 := by
  induction k generalizing n with
  | zero => rw [natb_small (by omega)]; simp
  | succ k ih =>
    by_cases hn : n < 128
    · rw [natb_small hn]; simp
    · rw [natb_big (by omega), List.length_cons]
      have := ih (n / 128) (Nat.div_lt_of_lt_mul (by rw [Nat.pow_succ] at h; omega))
      omega
/-- What Nat lays. -/
def natw (n : Int) : List Nat := if 0 ≤ n ∧ n ≤ 4611686018427387904 then natb n.toNat else []
/-- A word's bytes, the highest first. -/
def eightb (w : Nat) : List Nat := (List.range 8).map fun i => w / 2 ^ (56 - 8 * i) % 256
theorem eight_step (m : Nat) {k : Nat} (hk : k < 8) : (eightb m).take (k + 1) = (eightb m).take k ++ [m / 2 ^ (56 - 8 * k) % 256] := by
  match k, hk with
  | 0, _ | 1, _ | 2, _ | 3, _ | 4, _ | 5, _ | 6, _ | 7, _ => rfl
theorem eightb_len (m : Nat) : (eightb m).length = 8 := rfl

/-- Of a row that is kept. -/
theorem Rd.kept {S : Nat → Prop} {w w' : World} {A : Option Addr} {n c : Nat} {l : List Nat} (h : Rd w A n c l) (k : Kept S w w') (hs : ∀ ad, A = some ad → ¬ S ad.block) : Rd w' A n c l := by
  refine ⟨h.1, ?_⟩
  rcases h.2 with h0 | ⟨rb, ro, e, hc⟩
  · exact .inl h0
  · refine .inr ⟨rb, ro, e, fun j u hj => ?_⟩
    have hh := hc j u hj
    have hb : ¬ S rb := hs _ e
    rw [k.cell (p := ⟨rb, ro + j, none⟩) (cell_lt hh) hb]
    exact hh
theorem Rd.at_ {w : World} {A : Option Addr} {n c : Nat} {l : List Nat} (h : Rd w A n c l) {j : Nat} (hj : j < n) : ∃ rb ro, A = some ⟨rb, ro, none⟩ ∧ w.cell? ⟨rb, ro + j, none⟩ = some (bcell (l.getD j 0)) := by
  rcases h.2 with h0 | ⟨rb, ro, e, hc⟩
  · omega
  · have hl : j < l.length := by have := h.1; omega
    refine ⟨rb, ro, e, ?_⟩
    rw [hc j _ (List.getElem?_eq_getElem hl)]
    simp [hl]

/-! ### What is taken: an error (0: none), what it is, how many bytes -/

/-- How many bytes ahead, nine at most, have their highest bit set. -/
def lead (r : List Nat) : Nat := ((r.take 9).takeWhile (fun b => decide (128 ≤ b))).length
/-- The number of such bytes, the lowest first. -/
def valb : List Nat → Nat
  | [] => 0
  | b :: r => b % 128 + 128 * valb r
def natErr (r : List Nat) : Int :=
  if lead r = 9 then 3 else if lead r = r.length then 2
  else if (0 < lead r ∧ r.getD (lead r) 0 = 0) ∨ 4611686018427387904 < valb (r.take (lead r + 1)) then 3 else 0
def natVal (r : List Nat) : Nat := valb (r.take (lead r + 1))
def natTaken (r : List Nat) : Nat := lead r + 1
/-- A word out of eight bytes. -/
def wordb (r : List Nat) : Nat := (r.take 8).foldl (fun w b => w * 256 + b) 0

end Go.Proofs.YtgenmebmdpnjhaaGreat

namespace Go.Proofs.YtgenmebmdpnjhaaGreat
open Go.RowKit

theorem one_more (w : World) (A : Obj) : Below w.heap.size w (w.alloc A) := (Below.refl _ _).alloc (Nat.le_refl _) _

set_option maxRecDepth 100000 in
set_option maxHeartbeats 2000000 in
theorem rnat_any {A : Option Addr} {n c : Nat} {l : List Nat} {w : World} (m : Int) (hr : Rd w A n c l) (hn : n ≤ 100000) :
    Calls Tryz.prog 43 #[.slice A n c, .int .i64 m] w fun e w' => ∃ v, e = .returned v ∧ Laid w w' v (l ++ natw m) := by
  have HR := Lib.hid hr
  have hl := hr.1
  clear hr
  by_cases h1 : m < 0
  · have hw : natw m = [] := by unfold natw; rw [if_neg (by omega)]
    rw [hw]
    clear hw
    go_enter Tryz.func43, Tryz.ntmps43
    go_wp2_with (first | (at_builtin; refine wpList_lay rfl _ _ rfl _ [] rfl (laid_empty w) A n c l rfl (HR.out.later (one_more w _)) (by simp; omega) ?_; intro v1 w1 hl1; have HL := Lib.hid hl1; clear hl1))
    go_ret
    exact ⟨v1, rfl, by simpa using HL.out⟩
  · by_cases h2 : 4611686018427387904 < m
    · have hw : natw m = [] := by unfold natw; rw [if_neg (by omega)]
      rw [hw]
      clear hw
      go_enter Tryz.func43, Tryz.ntmps43
      go_wp2_with (first | (at_builtin; refine wpList_lay rfl _ _ rfl _ [] rfl (laid_empty w) A n c l rfl (HR.out.later (one_more w _)) (by simp; omega) ?_; intro v1 w1 hl1; have HL := Lib.hid hl1; clear hl1))
      go_ret
      exact ⟨v1, rfl, by simpa using HL.out⟩
    · have hw : natw m = natb m.toNat := by unfold natw; rw [if_pos (by omega)]
      obtain ⟨q, rfl⟩ : ∃ q : Nat, m = (q : Int) := ⟨m.toNat, by omega⟩
      rw [hw, Int.toNat_natCast]
      have hlen : (natb q).length ≤ 9 := natb_len 8 q (by have : (128 : Nat) ^ 9 = 9223372036854775808 := by decide
                                                          omega)
      have HLen := Lib.hid hlen
      clear hw hlen
      go_enter Tryz.func43, Tryz.ntmps43
      go_wp2_with (first | (at_builtin; refine wpList_lay rfl _ _ rfl _ [] rfl (laid_empty w) A n c l rfl (HR.out.later (one_more w _)) (by simp; omega) ?_; intro v1 w1 hl1; have HL := Lib.hid hl1; clear hl1))
      go_loopw [1, 5] (fun nn out wr => ∃ (k : Nat) (done : List Nat), nn = .int .i64 (k : Int) ∧ k ≤ 4611686018427387904 ∧ done ++ natb k = natb q ∧ Laid w wr out (l ++ done)) (fun nn _ _ => (intOf nn).toNat)
      case atStart => exact ⟨q, [], rfl, by omega, rfl, by simpa using HL.out⟩
      case round =>
        obtain ⟨k, done, rfl, hk, hd, hL⟩ := hrel
        have HL2 := Lib.hid hL
        have hdl : done.length + (natb k).length ≤ 9 := by
          have := HLen.out
          rw [← hd, List.length_append] at this
          exact this
        clear hL HL
        by_cases hlt : k < 128
        · have HD : Hid (natb q = done ++ [k]) := by rw [← hd, natb_small hlt]; rfl
          clear hd
          have u1 : IntKind.u8.wrap (k : Int) = (k : Int) := IntWalk.u8_in _ (by omega)
          go_wp2_with (first | (at_builtin; refine wpList_lay1 rfl _ _ rfl _ _ rfl HL2.out _ k rfl rfl (by rw [List.length_append]; omega) ?_; intro v2 w2 hl2; have HL3 := Lib.hid hl2; clear hl2))
          go_ret
          exact ⟨v2, rfl, by rw [HD.out, ← List.append_assoc]; exact HL3.out⟩
        · have HD : Hid ((done ++ [k % 128 + 128]) ++ natb (k / 128) = natb q) := by
            have e := natb_big (n := k) (by omega)
            have : (done ++ [k % 128 + 128]) ++ natb (k / 128) = natb q := by rw [← hd, e]; simp
            exact this
          clear hd
          have e1 : ((k : Int)).tmod 128 = ((k % 128 : Nat) : Int) := by rw [Int.tmod_eq_emod_of_nonneg (by omega)]; rfl
          have e2 : ((k : Int)).tdiv 128 = ((k / 128 : Nat) : Int) := by rw [Int.tdiv_eq_ediv_of_nonneg (by omega)]; rfl
          have hm := Nat.mod_lt k (show 0 < 128 by omega)
          have hq : k / 128 < k := Nat.div_lt_self (by omega) (by omega)
          generalize k % 128 = r at e1 hm HD
          generalize k / 128 = q2 at e2 hq HD
          have u1 : IntKind.u8.wrap (r : Int) = (r : Int) := IntWalk.u8_in _ (by omega)
          have u2 : IntKind.u8.wrap ((r : Int) + 128) = (r : Int) + 128 := IntWalk.u8_in _ (by omega)
          go_wp2_with (first | (at_builtin; refine wpList_lay1 rfl _ _ rfl _ _ rfl HL2.out _ (r + 128) (by omega) rfl (by rw [List.length_append]; omega) ?_; intro v2 w2 hl2; have HL3 := Lib.hid hl2; clear hl2))
          exact ⟨⟨q2, done ++ [r + 128], rfl, by omega, HD.out, by rw [← List.append_assoc]; exact HL3.out⟩, by simp [intOf]; omega⟩

set_option maxRecDepth 100000 in
set_option maxHeartbeats 2000000 in
theorem reight_any {A : Option Addr} {n c : Nat} {l : List Nat} {w : World} (m : Nat) (_ : m < 18446744073709551616) (hr : Rd w A n c l) (hn : n ≤ 100000) :
    Calls Tryz.prog 137 #[.slice A n c, .int .u64 (m : Int)] w fun e w' => ∃ v, e = .returned v ∧ Laid w w' v (l ++ eightb m) := by
  have HR := Lib.hid hr
  have hl := hr.1
  clear hr
  go_enter Tryz.func137, Tryz.ntmps137
  go_wp2_with (first | (at_builtin; refine wpList_lay rfl _ _ rfl _ [] rfl (laid_empty w) A n c l rfl (HR.out.later (one_more w _)) (by simp; omega) ?_; intro v1 w1 hl1; have HL := Lib.hid hl1; clear hl1))
  go_loopw [5, 6] (fun out i wr => ∃ k : Nat, k ≤ 8 ∧ i = .int .i64 (k : Int) ∧ Laid w wr out (l ++ (eightb m).take k)) (fun _ i _ => 8 - (intOf i).toNat)
  case atStart => exact ⟨0, by omega, rfl, by simpa using HL.out⟩
  case round =>
    obtain ⟨k, hk, rfl, hL⟩ := hrel
    have HL2 := Lib.hid hL
    clear hL HL
    by_cases hlt : k < 8
    · have HE : Hid ((eightb m).take (k + 1) = (eightb m).take k ++ [m / 2 ^ (56 - 8 * k) % 256]) := eight_step m hlt
      go_wp2_with (first | (at_builtin; refine wpList_lay1 rfl _ _ rfl _ _ rfl HL2.out _ (m / 2 ^ (56 - 8 * k) % 256) (by push_cast; rfl) rfl (by rw [List.length_append, List.length_take]; omega) ?_; intro v2 w2 hl2; have HL3 := Lib.hid hl2; clear hl2))
      exact ⟨⟨k + 1, by omega, rfl, by rw [HE.out, ← List.append_assoc]; exact HL3.out⟩, by simp [intOf]; omega⟩
    · have e8 : k = 8 := by omega
      subst e8
      have HE : Hid ((eightb m).take 8 = eightb m) := rfl
      go_wp2_with fail
      go_ret
      exact ⟨_, rfl, by rw [← HE.out]; exact HL2.out⟩
/-- A whole number's word. -/
def wordOf (n : Int) : Nat := (n % 18446744073709551616).toNat
theorem word_wrap (n : Int) : IntKind.u64.wrap n = ((wordOf n : Nat) : Int) ∧ wordOf n < 18446744073709551616 := by
  have h1 := Int.emod_nonneg n (show (18446744073709551616 : Int) ≠ 0 by omega)
  have h2 := Int.emod_lt_of_pos n (show (0 : Int) < 18446744073709551616 by omega)
  unfold wordOf
  refine ⟨?_, by omega⟩
  rw [IntKind.wrap_u64, Int.toNat_of_nonneg h1]

set_option maxRecDepth 100000 in
theorem rint_any {A : Option Addr} {n c : Nat} {l : List Nat} {w : World} (m : Int) (hr : Rd w A n c l) (hn : n ≤ 100000) :
    Calls Tryz.prog 110 #[.slice A n c, .int .i64 m] w fun e w' => ∃ v, e = .returned v ∧ Laid w w' v (l ++ eightb (wordOf m)) := by
  obtain ⟨hw, hw2⟩ := word_wrap m
  have HC := Lib.hid (reight_any (wordOf m) hw2 hr hn)
  generalize wordOf m = z at hw HC ⊢
  clear hw2 hr
  go_enter Tryz.func110, Tryz.ntmps110
  go_wp2_with fail
  refine HC.out.mono ?_
  rintro e w1 ⟨v, rfl, hl⟩
  have HL := Lib.hid hl
  clear hl HC
  go_wp2_with fail
  go_ret
  exact ⟨v, rfl, HL.out⟩

theorem bits_lt {x : Nat} (h : x < 2 ^ 64) : Fl.bits x < 18446744073709551616 := by
  unfold Fl.bits
  split
  · omega
  · split <;> omega

set_option maxRecDepth 100000 in
theorem rfloat_any {A : Option Addr} {n c : Nat} {l : List Nat} {w : World} (x : Nat) (hx : x < 2 ^ 64) (hr : Rd w A n c l) (hn : n ≤ 100000) :
    Calls Tryz.prog 111 #[.slice A n c, .float .f64 x] w fun e w' => ∃ v, e = .returned v ∧ Laid w w' v (l ++ eightb (Fl.bits x)) := by
  have HC := Lib.hid (reight_any (Fl.bits x) (bits_lt hx) hr hn)
  have HB := Lib.hid (rbits_any x)
  generalize Fl.bits x = z at HB HC ⊢
  clear hr
  go_enter Tryz.func111, Tryz.ntmps111
  go_wp2_with fail
  refine (HB.out _).mono ?_
  rintro e w1 ⟨rfl, rfl⟩
  go_wp2_with fail
  refine HC.out.mono ?_
  rintro e w1 ⟨v, rfl, hl⟩
  have HL := Lib.hid hl
  clear hl HC HB
  go_wp2_with fail
  go_ret
  exact ⟨v, rfl, HL.out⟩

/-- A text's bytes. -/
def bytesOf (s : ByteArray) : List Nat := s.data.toList.map (·.toNat)
theorem bytesOf_len (s : ByteArray) : (bytesOf s).length = s.size := by simp [bytesOf]
theorem bytesOf_cells (s : ByteArray) : (bytesOf s).map bcell = Lib.strCells s := by simp [bytesOf, Lib.strCells, List.map_map]

/-- 'append(buf, s...)'. -/
theorem wpList_lays {w W0 : World} {ops : Array Oper} {rest : List Oper} {o : Oper} {a : Act} {Q : Exit → Act → World → Prop} (hgd : o.guard = none) (s x : Operand)
    (ho : o.op = .call { callee := .builtin .append, args := #[s, x], argTypes := #[23, 9] })
    (v : Value) (l : List Nat) (hs : a.eval s = v) (hb : Laid W0 w v l) (t : ByteArray) (hx : a.eval x = .string t) (hlen : l.length + t.size ≤ 100000000)
    (h : ∀ v' w', Laid W0 w' v' (l ++ bytesOf t) → wpList Tryz.prog ops Q rest (a.put o.dst v') w') : wpList Tryz.prog ops Q (o :: rest) a w := by
  obtain ⟨i, hi, hz', h1, h2⟩ := byte_info
  refine Lib.wpList_append_text hgd s x 23 9 ho W0.heap.size 5 i Tryz.underlying23 Tryz.underlying9 hi hz' h1 h2 v l.length (l.map bcell) hs W0 hb t hx (by omega) ?_
  intro v' w' hb'
  refine h v' w' ?_
  unfold Laid
  rw [List.length_append, List.map_append, bytesOf_len, bytesOf_cells]
  exact hb'

set_option maxRecDepth 100000 in
theorem rtext_any {A : Option Addr} {n c : Nat} {l : List Nat} {w : World} (s : ByteArray) (hs : s.size ≤ 1000000) (hr : Rd w A n c l) (hn : n ≤ 100000) :
    Calls Tryz.prog 80 #[.slice A n c, .string s] w fun e w' => ∃ v, e = .returned v ∧ Laid w w' v (l ++ natb s.size ++ bytesOf s) := by
  have hl := hr.1
  have hw : natw (s.size : Int) = natb s.size := by unfold natw; rw [if_pos (by omega)]; rfl
  have HC := Lib.hid (rnat_any (s.size : Int) hr hn)
  rw [hw] at HC
  have hlen : (natb s.size).length ≤ 9 := natb_len 8 _ (by have : (128 : Nat) ^ 9 = 9223372036854775808 := by decide
                                                           omega)
  clear hw hr
  go_enter Tryz.func80, Tryz.ntmps80
  go_wp2_with fail
  refine HC.out.mono ?_
  rintro e w1 ⟨v, rfl, hl1⟩
  have HL := Lib.hid hl1
  clear hl1 HC
  go_wp2_with (first | (at_builtin; refine wpList_lays rfl _ _ rfl _ _ rfl HL.out s rfl (by rw [List.length_append]; omega) ?_; intro v2 w2 hl2; have HL3 := Lib.hid hl2; clear hl2))
  go_ret
  exact ⟨v2, rfl, HL3.out⟩
end Go.Proofs.YtgenmebmdpnjhaaGreat

namespace Go.Proofs.YtgenmebmdpnjhaaGreat
open Go.RowKit

/-- 'make([]byte, 0, c)': an own row, empty. -/
theorem make_laid (w : World) (c : Nat) (z : Int) (hz0 : z = (c : Int)) (hc : c ≤ 281474976710656) : ∃ w', (Instr.makeSlice 23 (.int .i64 0) (.int .i64 z)).run Tryz.prog w = .ok (.slice (some ⟨w.heap.size, 0, none⟩) 0 c) w' ∧ Laid w w' (.slice (some ⟨w.heap.size, 0, none⟩) 0 c) [] ∧ Below w.heap.size w w' := by
  subst hz0
  obtain ⟨i, hi, hz, h1, h2⟩ := byte_info
  obtain ⟨w', hr, ho, hg⟩ := run_make_own (P := Tryz.prog) w w.heap.size 23 5 i (.int .u8 0) 1 Tryz.underlying23 hi hz h1 .i64 .i64 c (by rw [h2]; omega) (by unfold maxLen; omega) (Nat.le_refl _)
  have hb : Below w.heap.size w w' := (Below.refl _ _).grown hg (Nat.le_refl _) (fun k hk => by cases hk)
  exact ⟨w', hr, ⟨World.ownsRowF_of ho, hb, hb.size⟩, hb⟩

set_option maxRecDepth 100000 in
set_option maxHeartbeats 2000000 in
theorem pfresh_any {A : Option Addr} {n c : Nat} {l : List Nat} {w : World} (room : Nat) (hr : Rd w A n c l) (hn : n ≤ 100000) (hroom : room ≤ 100000000) :
    Calls Tryz.prog 112 #[.slice A n c, .int .i64 (room : Int)] w fun e w' => ∃ v, e = .returned v ∧ Laid w w' v l := by
  obtain ⟨w1, hmk, hl1, hb1⟩ := make_laid w (n + room) ((n : Int) + (room : Int)) (by omega) (by omega)
  have HR := Lib.hid (hr.later hb1)
  have HL := Lib.hid hl1
  have hl := hr.1
  clear hr hl1 hb1
  go_enter Tryz.func112, Tryz.ntmps112
  go_wp2_with (first | (at_builtin; refine wpList_lay rfl _ _ rfl _ [] rfl HL.out A n c l rfl HR.out (by simp; omega) ?_; intro v1 w1 hl1; have HL1 := Lib.hid hl1; clear hl1))
  go_ret
  exact ⟨v1, rfl, by simpa using HL1.out⟩

set_option maxRecDepth 100000 in
set_option maxHeartbeats 2000000 in
theorem paddnat_any {v : Value} {W0 w : World} {l : List Nat} (q : Nat) (hq : q ≤ 4611686018427387904) (hL : Laid W0 w v l) (hn : l.length ≤ 200000) :
    Calls Tryz.prog 113 #[v, .int .i64 (q : Int)] w fun e w' => ∃ v', e = .returned v' ∧ Laid W0 w' v' (l ++ natb q) := by
  have hlen : (natb q).length ≤ 9 := natb_len 8 q (by have : (128 : Nat) ^ 9 = 9223372036854775808 := by decide
                                                      omega)
  have HLen := Lib.hid hlen
  have HL := Lib.hid hL
  clear hlen hL
  go_enter Tryz.func113, Tryz.ntmps113
  go_wp2_with fail
  go_loopw [0, 1] (fun out nn wr => ∃ (k : Nat) (done : List Nat), nn = .int .i64 (k : Int) ∧ k ≤ 4611686018427387904 ∧ done ++ natb k = natb q ∧ Laid W0 wr out (l ++ done)) (fun _ nn _ => (intOf nn).toNat)
  case atStart => exact ⟨q, [], rfl, by omega, rfl, by simpa using HL.out⟩
  case round =>
    obtain ⟨k, done, rfl, hk, hd, hL⟩ := hrel
    have HL2 := Lib.hid hL
    have hdl : done.length + (natb k).length ≤ 9 := by
      have := HLen.out
      rw [← hd, List.length_append] at this
      exact this
    clear hL HL
    by_cases hlt : k < 128
    · have HD : Hid (natb q = done ++ [k]) := by rw [← hd, natb_small hlt]; rfl
      clear hd
      have u1 : IntKind.u8.wrap (k : Int) = (k : Int) := IntWalk.u8_in _ (by omega)
      go_wp2_with (first | (at_builtin; refine wpList_lay1 rfl _ _ rfl _ _ rfl HL2.out _ k rfl rfl (by rw [List.length_append]; omega) ?_; intro v2 w2 hl2; have HL3 := Lib.hid hl2; clear hl2))
      go_ret
      exact ⟨v2, rfl, by rw [HD.out, ← List.append_assoc]; exact HL3.out⟩
    · have HD : Hid ((done ++ [k % 128 + 128]) ++ natb (k / 128) = natb q) := by
        have e := natb_big (n := k) (by omega)
        have : (done ++ [k % 128 + 128]) ++ natb (k / 128) = natb q := by rw [← hd, e]; simp
        exact this
      clear hd
      have e1 : ((k : Int)).tmod 128 = ((k % 128 : Nat) : Int) := by rw [Int.tmod_eq_emod_of_nonneg (by omega)]; rfl
      have e2 : ((k : Int)).tdiv 128 = ((k / 128 : Nat) : Int) := by rw [Int.tdiv_eq_ediv_of_nonneg (by omega)]; rfl
      have hm := Nat.mod_lt k (show 0 < 128 by omega)
      have hq : k / 128 < k := Nat.div_lt_self (by omega) (by omega)
      generalize k % 128 = r at e1 hm HD
      generalize k / 128 = q2 at e2 hq HD
      have u1 : IntKind.u8.wrap (r : Int) = (r : Int) := IntWalk.u8_in _ (by omega)
      have u2 : bits BinOp.or IntKind.u8 (r : Int) 128 = (r : Int) + 128 := u8_or128_right _ (by omega) (by omega)
      go_wp2_with (first | (at_builtin; refine wpList_lay1 rfl _ _ rfl _ _ rfl HL2.out _ (r + 128) (by omega) rfl (by rw [List.length_append]; omega) ?_; intro v2 w2 hl2; have HL3 := Lib.hid hl2; clear hl2))
      exact ⟨⟨q2, done ++ [r + 128], rfl, by omega, HD.out, by rw [← List.append_assoc]; exact HL3.out⟩, by simp [intOf]; omega⟩

set_option maxRecDepth 100000 in
set_option maxHeartbeats 2000000 in
theorem paddeight_any {v : Value} {W0 w : World} {l : List Nat} (m : Nat) (_ : m < 18446744073709551616) (hL : Laid W0 w v l) (hn : l.length ≤ 200000) :
    Calls Tryz.prog 139 #[v, .int .u64 (m : Int)] w fun e w' => ∃ v', e = .returned v' ∧ Laid W0 w' v' (l ++ eightb m) := by
  have HL := Lib.hid hL
  clear hL
  go_enter Tryz.func139, Tryz.ntmps139
  go_wp2_with fail
  go_loopw [0, 6] (fun out i wr => ∃ k : Nat, k ≤ 8 ∧ i = .int .i64 (k : Int) ∧ Laid W0 wr out (l ++ (eightb m).take k)) (fun _ i _ => 8 - (intOf i).toNat)
  case atStart => exact ⟨0, by omega, rfl, by simpa using HL.out⟩
  case round =>
    obtain ⟨k, hk, rfl, hL⟩ := hrel
    have HL2 := Lib.hid hL
    clear hL HL
    by_cases hlt : k < 8
    · have HE : Hid ((eightb m).take (k + 1) = (eightb m).take k ++ [m / 2 ^ (56 - 8 * k) % 256]) := eight_step m hlt
      have hs1 : IntKind.i64.wrap (7 - (k : Int)) = 7 - (k : Int) := IntWalk.i64_in _ (by omega)
      have hs2 : IntKind.i64.wrap (8 * (7 - (k : Int))) = ((56 - 8 * k : Nat) : Int) := by rw [IntWalk.i64_in _ (by omega)]; omega
      go_wp2_with (first | (at_builtin; refine wpList_lay1 rfl _ _ rfl _ _ rfl HL2.out _ (m / 2 ^ (56 - 8 * k) % 256) (by push_cast; rfl) rfl (by rw [List.length_append, List.length_take]; omega) ?_; intro v2 w2 hl2; have HL3 := Lib.hid hl2; clear hl2))
      exact ⟨⟨k + 1, by omega, rfl, by rw [HE.out, ← List.append_assoc]; exact HL3.out⟩, by simp [intOf]; omega⟩
    · have e8 : k = 8 := by omega
      subst e8
      have HE : Hid ((eightb m).take 8 = eightb m) := rfl
      go_wp2_with fail
      go_ret
      exact ⟨_, rfl, by rw [← HE.out]; exact HL2.out⟩

set_option maxRecDepth 100000 in
set_option maxHeartbeats 2000000 in
theorem pnat_any {A : Option Addr} {n c : Nat} {l : List Nat} {w : World} (m : Int) (hr : Rd w A n c l) (hn : n ≤ 100000) :
    Calls Tryz.prog 81 #[.slice A n c, .int .i64 m] w fun e w' => ∃ v, e = .returned v ∧ Laid w w' v (l ++ natw m) := by
  have hl := hr.1
  have HC := Lib.hid (pfresh_any 9 hr hn (by omega))
  clear hr
  by_cases h1 : m < 0
  · have HW : Hid (natw m = []) := by unfold natw; rw [if_neg (by omega)]; exact rfl
    go_enter Tryz.func81, Tryz.ntmps81
    go_wp2_with fail
    refine HC.out.mono ?_
    rintro e w1 ⟨v1, rfl, hl1⟩
    have HL := Lib.hid hl1
    clear hl1 HC
    go_wp2_with fail
    go_ret
    exact ⟨v1, rfl, by rw [HW.out, List.append_nil]; exact HL.out⟩
  · by_cases h2 : 4611686018427387904 < m
    · have HW : Hid (natw m = []) := by unfold natw; rw [if_neg (by omega)]; exact rfl
      go_enter Tryz.func81, Tryz.ntmps81
      go_wp2_with fail
      refine HC.out.mono ?_
      rintro e w1 ⟨v1, rfl, hl1⟩
      have HL := Lib.hid hl1
      clear hl1 HC
      go_wp2_with fail
      go_ret
      exact ⟨v1, rfl, by rw [HW.out, List.append_nil]; exact HL.out⟩
    · have HW : Hid (natw m = natb m.toNat) := by unfold natw; rw [if_pos (by omega)]; exact rfl
      obtain ⟨q, rfl⟩ : ∃ q : Nat, m = (q : Int) := ⟨m.toNat, by omega⟩
      rw [Int.toNat_natCast] at HW
      go_enter Tryz.func81, Tryz.ntmps81
      go_wp2_with fail
      refine HC.out.mono ?_
      rintro e w1 ⟨v1, rfl, hl1⟩
      have HL := Lib.hid hl1
      clear hl1 HC
      go_wp2_with fail
      refine (paddnat_any q (by omega) HL.out (by omega)).mono ?_
      rintro e w2 ⟨v2, rfl, hl2⟩
      have HL2 := Lib.hid hl2
      clear hl2 HL
      go_wp2_with fail
      go_ret
      exact ⟨v2, rfl, by rw [HW.out]; exact HL2.out⟩

set_option maxRecDepth 100000 in
theorem pint_any {A : Option Addr} {n c : Nat} {l : List Nat} {w : World} (m : Int) (hr : Rd w A n c l) (hn : n ≤ 100000) :
    Calls Tryz.prog 116 #[.slice A n c, .int .i64 m] w fun e w' => ∃ v, e = .returned v ∧ Laid w w' v (l ++ eightb (wordOf m)) := by
  obtain ⟨hw, hw2⟩ := word_wrap m
  have hl := hr.1
  have HC := Lib.hid (pfresh_any 8 hr hn (by omega))
  generalize wordOf m = z at hw hw2 ⊢
  clear hr
  go_enter Tryz.func116, Tryz.ntmps116
  go_wp2_with fail
  refine HC.out.mono ?_
  rintro e w1 ⟨v1, rfl, hl1⟩
  have HL := Lib.hid hl1
  clear hl1 HC
  go_wp2_with fail
  refine (paddeight_any z hw2 HL.out (by omega)).mono ?_
  rintro e w2 ⟨v2, rfl, hl2⟩
  have HL2 := Lib.hid hl2
  clear hl2 HL
  go_wp2_with fail
  go_ret
  exact ⟨v2, rfl, HL2.out⟩

set_option maxRecDepth 100000 in
theorem pfloat_any {A : Option Addr} {n c : Nat} {l : List Nat} {w : World} (x : Nat) (hx : x < 2 ^ 64) (hr : Rd w A n c l) (hn : n ≤ 100000) :
    Calls Tryz.prog 117 #[.slice A n c, .float .f64 x] w fun e w' => ∃ v, e = .returned v ∧ Laid w w' v (l ++ eightb (Fl.bits x)) := by
  have hl := hr.1
  have HC := Lib.hid (pfresh_any 8 hr hn (by omega))
  have HB := Lib.hid (bits_any x)
  have hb := bits_lt hx
  generalize Fl.bits x = z at HB hb ⊢
  clear hr
  go_enter Tryz.func117, Tryz.ntmps117
  go_wp2_with fail
  refine HC.out.mono ?_
  rintro e w1 ⟨v1, rfl, hl1⟩
  have HL := Lib.hid hl1
  clear hl1 HC
  go_wp2_with fail
  refine (HB.out _).mono ?_
  rintro e w2 ⟨rfl, rfl⟩
  go_wp2_with fail
  refine (paddeight_any z hb HL.out (by omega)).mono ?_
  rintro e w2 ⟨v2, rfl, hl2⟩
  have HL2 := Lib.hid hl2
  clear hl2 HL
  go_wp2_with fail
  go_ret
  exact ⟨v2, rfl, HL2.out⟩

set_option maxRecDepth 100000 in
theorem ptext_any {A : Option Addr} {n c : Nat} {l : List Nat} {w : World} (s : ByteArray) (hs : s.size ≤ 1000000) (hr : Rd w A n c l) (hn : n ≤ 100000) :
    Calls Tryz.prog 115 #[.slice A n c, .string s] w fun e w' => ∃ v, e = .returned v ∧ Laid w w' v (l ++ natb s.size ++ bytesOf s) := by
  have hl := hr.1
  have HC := Lib.hid (pfresh_any (9 + s.size) hr hn (by omega))
  have hlen : (natb s.size).length ≤ 9 := natb_len 8 _ (by have : (128 : Nat) ^ 9 = 9223372036854775808 := by decide
                                                           omega)
  have hw : IntKind.i64.wrap (9 + (s.size : Int)) = ((9 + s.size : Nat) : Int) := by rw [IntWalk.i64_in _ (by omega)]; omega
  clear hr
  go_enter Tryz.func115, Tryz.ntmps115
  go_wp2_with fail
  refine HC.out.mono ?_
  rintro e w1 ⟨v1, rfl, hl1⟩
  have HL := Lib.hid hl1
  clear hl1 HC
  go_wp2_with fail
  refine (paddnat_any s.size (by omega) HL.out (by omega)).mono ?_
  rintro e w2 ⟨v2, rfl, hl2⟩
  have HL2 := Lib.hid hl2
  clear hl2 HL
  go_wp2_with (first | (at_builtin; refine wpList_lays rfl _ _ rfl _ _ rfl HL2.out s rfl (by rw [List.length_append]; omega) ?_; intro v3 w3 hl3; have HL3 := Lib.hid hl3; clear hl3))
  go_ret
  exact ⟨v3, rfl, HL3.out⟩

end Go.Proofs.YtgenmebmdpnjhaaGreat
