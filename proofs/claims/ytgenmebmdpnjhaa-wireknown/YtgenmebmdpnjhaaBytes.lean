
/- Rows of bytes: read, laid, laid on; numbers by seven bits, words by eight bytes. -/
import Derived.Test.YtgenmebmdpnjhaaRef1
import Derived.Test.YtgenmebmdpnjhaaHand
import Derived.Test.YtgenmebmdpnjhaaLater
import Derived.Lib.BufSteps
import Derived.Laws.BytesArg
import Derived.Laws.IdiomStrings
namespace Go.Proofs.Ytgenmebmdpnjhaa
open Go.RowKit

theorem info_byte : (Try.prog.info? 5).map (fun i => (i.zero, i.size, i.bytes)) = some (some (.int .u8 0), 1, 1) := by kernel_rfl
theorem byte_info : ∃ i, Try.prog.info? 5 = some i ∧ i.zero = some (.int .u8 0) ∧ i.size = 1 ∧ i.bytes = 1 := by
  obtain ⟨i, hi, he⟩ := Option.map_eq_some_iff.1 info_byte
  simp only [Prod.mk.injEq] at he
  exact ⟨i, hi, he.1, he.2.1, he.2.2⟩

abbrev bcell (b : Nat) : Value := .int .u8 (b : Int)
theorem add_at (g o j : Nat) : (⟨g, o, none⟩ : Addr).add j = ⟨g, o + j, none⟩ := by unfold Addr.add; split <;> simp_all
/-- A slice of bytes that reads so. -/
def Rd (w : World) (A : Option Addr) (n c : Nat) (l : List Nat) : Prop :=
  l.length = n ∧ ((A = none ∧ n = 0 ∧ c = 0) ∨ ∃ rb ro, A = some ⟨rb, ro, none⟩ ∧ ∀ j u, l[j]? = some u → w.cell? ⟨rb, ro + j, none⟩ = some (bcell u))
/-- A slice v of the call's own, made since W0, that reads so; nothing else of W0 has turned. -/
def Laid (W0 w : World) (v : Value) (l : List Nat) : Prop := Lib.OwnBuf W0.heap.size 5 v l.length (l.map bcell) W0 w

theorem Laid.below {W0 w : World} {v : Value} {l : List Nat} (h : Laid W0 w v l) : Below W0.heap.size W0 w := h.2.1
/-- What is laid can be read. -/
theorem Laid.reads {W0 w : World} {v : Value} {l : List Nat} (h : Laid W0 w v l) : ∃ A c, v = .slice A l.length c ∧ Rd w A l.length c l := by
  rcases h.1.2 with ⟨rfl, h0⟩ | ⟨g, cap, cur, fz, rfl, hb, hg, hfz, hn, hm, hs, ht⟩
  · exact ⟨none, 0, by rw [h0], rfl, .inl ⟨rfl, h0, rfl⟩⟩
  · refine ⟨_, _, rfl, rfl, .inr ⟨g, 0, rfl, fun j u hj => ?_⟩⟩
    rw [← add_at]
    exact h.1.cells (g := g) rfl j _ (by rw [List.getElem?_map, hj]; rfl)
theorem Rd.later {w w' : World} {A : Option Addr} {n c : Nat} {l : List Nat} (h : Rd w A n c l) (hb : Below w.heap.size w w') : Rd w' A n c l := by
  refine ⟨h.1, ?_⟩
  rcases h.2 with h0 | ⟨rb, ro, e, hc⟩
  · exact .inl h0
  · exact .inr ⟨rb, ro, e, fun j u hj => by have hh := hc j u hj; rw [hb.cell (World.block_lt_of_cell? w _ hh)]; exact hh⟩

/-- '[]byte{}', and nil. -/
theorem laid_empty (w : World) : Laid w (w.alloc (.cells #[] 5)) (.slice (some ⟨w.heap.size, 0, none⟩) 0 0) [] := by
  refine ⟨⟨rfl, .inr ⟨w.heap.size, 0, #[], (0, 0), rfl, Nat.le_refl _, heap_alloc_new _ _, Nat.zero_le _, Nat.le_refl _, Nat.zero_le _, rfl, rfl⟩⟩, (Below.refl _ _).alloc (Nat.le_refl _) _, by simp⟩
theorem laid_nil (w : World) : Laid w w (.slice none 0 0) [] := ⟨World.ownsRowF_nil _ _ _ _, Below.refl _ _, Nat.le_refl _⟩

theorem append_none_run {w : World} {B : Nat} {v : Value} {n : Nat} {xs : List Value} (ty : TypeId) (hown : w.ownsRowF B 5 1 v n xs) : (Builtin.append_ #[37, 37] ty #[v, .slice none 0 0]).run Try.prog w = .ok v w := by
  obtain ⟨i, hi, _, _, _⟩ := byte_info
  rcases hown.2 with ⟨rfl, rfl⟩ | ⟨g, cap, cur, fz, rfl, _, _, _, hnc, _⟩
  · simp [Builtin.append_, run_underlying Try.underlying37, sizeOf, typeInfo, hi, Builtin.lenOf, Builtin.firstCells]
  · simp [Builtin.append_, run_underlying Try.underlying37, sizeOf, typeInfo, hi, Builtin.lenOf, Builtin.firstCells, hnc, storeCells]

/-- 'append(buf, b...)'. -/
theorem wpList_lay {w W0 : World} {ops : Array Oper} {rest : List Oper} {o : Oper} {a : Act} {Q : Exit → Act → World → Prop} (hgd : o.guard = none) (s x : Operand)
    (ho : o.op = .call { callee := .builtin .append, args := #[s, x], argTypes := #[37, 37] })
    (v : Value) (l : List Nat) (hs : a.eval s = v) (hb : Laid W0 w v l) (A : Option Addr) (m c : Nat) (news : List Nat) (hx : a.eval x = .slice A m c) (hr : Rd w A m c news) (hlen : l.length + m ≤ 1000000)
    (h : ∀ v' w', Laid W0 w' v' (l ++ news) → wpList Try.prog ops Q rest (a.put o.dst v') w') : wpList Try.prog ops Q (o :: rest) a w := by
  obtain ⟨rfl, hr⟩ := hr
  rcases hr with ⟨rfl, h0, rfl⟩ | ⟨rb, ro, rfl, hc⟩
  · have e0 : news = [] := List.eq_nil_of_length_eq_zero h0
    subst e0
    rw [List.append_nil] at h
    refine wpList_plain hgd fun K hK => ?_
    have hrun := append_none_run (w := w) o.type hb.1
    have hx' : a.eval x = .slice none 0 0 := hx
    unfold Oper.wp execOp
    simp only [ho, resolve, invoke, builtin, Sem.run_bind, Sem.run_pure, Result.andThen_ok, List.map_toArray, List.map_cons, List.map_nil, hs, hx', hrun]
    exact hK _ _ (h v w hb)
  · obtain ⟨i, hi, hz, h1, h2⟩ := byte_info
    refine wpList_append_ownF w hgd s x 37 ho W0.heap.size 5 i (.int .u8 0) 1 1 Try.underlying37 hi hz h1 h2 rfl (by decide) v l.length (l.map bcell) hs hb.1 ⟨rb, ro, none⟩ news.length c (news.map bcell) hx (by simp) ?_ ?_ (by unfold maxLen; omega) (by omega) hb.2.2 ?_
    · intro j u hj
      rw [List.getElem?_map] at hj
      obtain ⟨b, hb', rfl⟩ := Option.map_eq_some_iff.1 hj
      rw [add_at]
      exact hc j b hb'
    · intro u hu
      obtain ⟨b, _, rfl⟩ := List.mem_map.1 hu
      rfl
    · intro v' w' ho' hg _
      refine h v' w' ?_
      have := hb.grown ho' hg
      unfold Laid
      rw [List.length_append, List.map_append]
      exact this

/-- 'append(buf, c)'. -/
theorem wpList_lay1 {w W0 : World} {ops : Array Oper} {rest : List Oper} {o : Oper} {a : Act} {Q : Exit → Act → World → Prop} (hgd : o.guard = none) (s x : Operand)
    (ho : o.op = .call { callee := .builtin .append, args := #[s, x], argTypes := #[37, 37] })
    (v : Value) (l : List Nat) (hs : a.eval s = v) (hb : Laid W0 w v l) (z : Int) (b : Nat) (hz : z = (b : Int)) (hx : a.eval x = .slice (some ⟨w.heap.size, 0, none⟩) 1 1) (hlen : l.length ≤ 1000000)
    (h : ∀ v' w', Laid W0 w' v' (l ++ [b]) → wpList Try.prog ops Q rest (a.put o.dst v') w') : wpList Try.prog ops Q (o :: rest) a (w.alloc (.cells #[.int .u8 z] 5)) := by
  obtain ⟨i, hi, hz', h1, h2⟩ := byte_info
  subst hz
  refine Lib.wpList_append_byte hgd s x 37 ho W0.heap.size 5 i Try.underlying37 hi hz' h1 h2 v l.length (l.map bcell) hs W0 w (b : Int) hb hx (by omega) ?_
  intro v' w' hb'
  refine h v' w' ?_
  unfold Laid
  rw [List.length_append, List.map_append]
  exact hb'

/-- A number by seven bits a byte. -/
def natb (n : Nat) : List Nat := if n < 128 then [n] else (n % 128 + 128) :: natb (n / 128)
theorem natb_small {n : Nat} (h : n < 128) : natb n = [n] := by rw [natb, if_pos h]
theorem natb_big {n : Nat} (h : 128 ≤ n) : natb n = (n % 128 + 128) :: natb (n / 128) := by rw [natb, if_neg (by omega)]
theorem natb_len (k n : Nat) (h : n < 128 ^ (k + 1)) : (natb n).length ≤ k + 1 := by
  induction k generalizing n with
  | zero => rw [natb_small (by omega)]; simp
  | succ k ih =>
    by_cases hn : n < 128
    · rw [natb_small hn]; simp
    · rw [natb_big (by omega), List.length_cons]
      have := ih (n / 128) (Nat.div_lt_of_lt_mul (by rw [Nat.pow_succ] at h; omega))
      omega
/-- What Nat lays. -/
def natw (n : Int) : List Nat := if 0 ≤ n ∧ n ≤ 4611686018427387904 then natb n.toNat else []
/-- A word's bytes, the highest first. -/
def eightb (w : Nat) : List Nat := (List.range 8).map fun i => w / 2 ^ (56 - 8 * i) % 256
theorem eight_step (m : Nat) {k : Nat} (hk : k < 8) : (eightb m).take (k + 1) = (eightb m).take k ++ [m / 2 ^ (56 - 8 * k) % 256] := by
  match k, hk with
  | 0, _ | 1, _ | 2, _ | 3, _ | 4, _ | 5, _ | 6, _ | 7, _ => rfl
theorem eightb_len (m : Nat) : (eightb m).length = 8 := rfl

/-- Of a row that is kept. -/
theorem Rd.kept {S : Nat → Prop} {w w' : World} {A : Option Addr} {n c : Nat} {l : List Nat} (h : Rd w A n c l) (k : Kept S w w') (hs : ∀ ad, A = some ad → ¬ S ad.block) : Rd w' A n c l := by
  refine ⟨h.1, ?_⟩
  rcases h.2 with h0 | ⟨rb, ro, e, hc⟩
  · exact .inl h0
  · refine .inr ⟨rb, ro, e, fun j u hj => ?_⟩
    have hh := hc j u hj
    have hb : ¬ S rb := hs _ e
    rw [k.cell (p := ⟨rb, ro + j, none⟩) (cell_lt hh) hb]
    exact hh
theorem Rd.at_ {w : World} {A : Option Addr} {n c : Nat} {l : List Nat} (h : Rd w A n c l) {j : Nat} (hj : j < n) : ∃ rb ro, A = some ⟨rb, ro, none⟩ ∧ w.cell? ⟨rb, ro + j, none⟩ = some (bcell (l.getD j 0)) := by
  rcases h.2 with h0 | ⟨rb, ro, e, hc⟩
  · omega
  · have hl : j < l.length := by have := h.1; omega
    refine ⟨rb, ro, e, ?_⟩
    rw [hc j _ (List.getElem?_eq_getElem hl)]
    simp [hl]

/-! ### What is taken: an error (0: none), what it is, how many bytes -/

/-- How many bytes ahead, nine at most, have their highest bit set. -/
def lead (r : List Nat) : Nat := ((r.take 9).takeWhile (fun b => decide (128 ≤ b))).length
/-- The number of such bytes, the lowest first. -/
def valb : List Nat → Nat
  | [] => 0
  | b :: r => b % 128 + 128 * valb r
def natErr (r : List Nat) : Int :=
  if lead r = 9 then 3 else if lead r = r.length then 2
  else if (0 < lead r ∧ r.getD (lead r) 0 = 0) ∨ 4611686018427387904 < valb (r.take (lead r + 1)) then 3 else 0
def natVal (r : List Nat) : Nat := valb (r.take (lead r + 1))
def natTaken (r : List Nat) : Nat := lead r + 1
/-- A word out of eight bytes. -/
def wordb (r : List Nat) : Nat := (r.take 8).foldl (fun w b => w * 256 + b) 0

end Go.Proofs.Ytgenmebmdpnjhaa
