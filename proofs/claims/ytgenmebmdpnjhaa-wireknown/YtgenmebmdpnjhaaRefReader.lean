
/- The document's Reader: Left, Nat, word, Int, Float, Text. -/
import Derived.Test.YtgenmebmdpnjhaaRefPack
import Derived.Laws.Bits64b
import Derived.Deep.DeepCutAuto
namespace Go.Proofs.Ytgenmebmdpnjhaa
open Go.RowKit

/-- A Reader of the document's in block g: its bytes, how many are taken, its error. -/
structure RS (w : World) (g : Nat) (A : Option Addr) (n c : Nat) (l : List Nat) (a : Nat) (bad : Int) : Prop where
  c0 : w.cell? ⟨g, 0, none⟩ = some (.slice A n c)
  c1 : w.cell? ⟨g, 1, none⟩ = some (.int .i64 (a : Int))
  c2 : w.cell? ⟨g, 2, none⟩ = some (.int .i64 bad)
  f1 : w.frozen? ⟨g, 1, none⟩ = false
  f2 : w.frozen? ⟨g, 2, none⟩ = false
  rd : Rd w A n c l
  le : a ≤ n
  apart : ∀ ad, A = some ad → ¬ ad.block = g
  small : n ≤ 4611686018427387904
  cap : n ≤ c

theorem RS.drewN {w : World} {g : Nat} {A : Option Addr} {n c : Nat} {l : List Nat} {a : Nat} {bad : Int} (h : RS w g A n c l a bad) (m : Nat) : RS (w.drewN m) g A n c l a bad :=
  ⟨h.c0, h.c1, h.c2, h.f1, h.f2, h.rd, h.le, h.apart, h.small, h.cap⟩
theorem RS.seta {w : World} {g : Nat} {A : Option Addr} {n c : Nat} {l : List Nat} {a : Nat} {bad : Int} (h : RS w g A n c l a bad) {a' : Nat} (ha : a' ≤ n) : RS (w.setCell ⟨g, 1, none⟩ (.int .i64 (a' : Int))) g A n c l a' bad := by
  refine ⟨?_, ?_, ?_, ?_, ?_, ?_, ha, h.apart, h.small, h.cap⟩
  · rw [World.cell?_setCell_other _ _ _ _ (by simp)]; exact h.c0
  · exact World.cell?_setCell_same _ _ _ h.c1
  · rw [World.cell?_setCell_other _ _ _ _ (by simp)]; exact h.c2
  · rw [World.frozen?_setCell]; exact h.f1
  · rw [World.frozen?_setCell]; exact h.f2
  · exact h.rd.kept (Kept.setCell (S := (· = g)) w ⟨g, 1, none⟩ rfl _) h.apart
theorem RS.setb {w : World} {g : Nat} {A : Option Addr} {n c : Nat} {l : List Nat} {a : Nat} {bad : Int} (h : RS w g A n c l a bad) (b' : Int) : RS (w.setCell ⟨g, 2, none⟩ (.int .i64 b')) g A n c l a b' := by
  refine ⟨?_, ?_, ?_, ?_, ?_, ?_, h.le, h.apart, h.small, h.cap⟩
  · rw [World.cell?_setCell_other _ _ _ _ (by simp)]; exact h.c0
  · rw [World.cell?_setCell_other _ _ _ _ (by simp)]; exact h.c1
  · exact World.cell?_setCell_same _ _ _ h.c2
  · rw [World.frozen?_setCell]; exact h.f1
  · rw [World.frozen?_setCell]; exact h.f2
  · exact h.rd.kept (Kept.setCell (S := (· = g)) w ⟨g, 2, none⟩ rfl _) h.apart

/-- How the bytes ahead are counted: k of them have their highest bit set, so far. -/
def Led (r : List Nat) (k : Nat) : Prop := k ≤ 9 ∧ k ≤ r.length ∧ ∀ j, j < k → 128 ≤ r.getD j 0
theorem takeWhile_len (p : Nat → Bool) : ∀ (r : List Nat) (k : Nat), k ≤ r.length → (∀ j, j < k → p (r.getD j 0) = true) → (k = r.length ∨ p (r.getD k 0) = false) → (r.takeWhile p).length = k
  | [], k, hk, _, _ => by simp at hk; subst hk; rfl
  | b :: r, 0, _, _, he => by
    rcases he with he | he
    · simp at he
    · have hb : p b = false := by simpa using he
      simp [List.takeWhile, hb]
  | b :: r, k + 1, hk, ha, he => by
    have hb : p b = true := by simpa using ha 0 (by omega)
    have ih := takeWhile_len p r k (by simpa using hk) (fun j hj => by simpa using ha (j + 1) (by omega)) (by simpa using he)
    simp [List.takeWhile, hb, ih]
theorem led_end {r : List Nat} {k : Nat} (h : Led r k) (he : k = 9 ∨ k = r.length ∨ r.getD k 0 < 128) : lead r = k := by
  obtain ⟨h9, hl, ha⟩ := h
  unfold lead
  refine takeWhile_len _ _ _ (by rw [List.length_take]; omega) (fun j hj => ?_) ?_
  · have := ha j hj
    rw [show (r.take 9).getD j 0 = r.getD j 0 by simp [show j < 9 by omega]]
    simpa using this
  · rcases he with he | he | he
    · left; rw [List.length_take]; omega
    · left; rw [List.length_take]; omega
    · by_cases h99 : k = 9
      · left; rw [List.length_take]; omega
      · right
        rw [show (r.take 9).getD k 0 = r.getD k 0 by simp [show k < 9 by omega]]
        simpa using he
theorem led_step {r : List Nat} {k : Nat} (h : Led r k) (h9 : ¬ k = 9) (hl : k < r.length) (hb : 128 ≤ r.getD k 0) : Led r (k + 1) :=
  ⟨by have := h.1; omega, hl, fun j hj => by
    by_cases e : j = k
    · subst e; exact hb
    · exact h.2.2 j (by omega)⟩
theorem valb_lt : ∀ r : List Nat, valb r < 128 ^ r.length
  | [] => by simp [valb]
  | b :: r => by
    have ih := valb_lt r
    have hb := Nat.mod_lt b (show 0 < 128 by omega)
    rw [valb, List.length_cons, Nat.pow_succ]
    omega
theorem valb_drop (r : List Nat) {i : Nat} (hi : i < r.length) : valb (r.drop i) = valb (r.drop (i + 1)) * 128 + r.getD i 0 % 128 := by
  rw [List.drop_eq_getElem_cons hi, valb]
  simp [hi]
  omega

/-- What a method tells that takes something, t bytes: it, if there is no error; else nothing is taken. -/
def Took (g : Nat) (A : Option Addr) (n c : Nat) (l : List Nat) (a : Nat) (err : Int) (t : Nat) (z v : Value) (w : World) (e : Ending) (w' : World) : Prop :=
  (err = 0 ∧ e = .returned v ∧ RS w' g A n c l (a + t) 0 ∧ Kept (· = g) w w') ∨ (¬ err = 0 ∧ e = .returned z ∧ RS w' g A n c l a err ∧ Kept (· = g) w w')

/-- The bytes of a row that reads. -/
def Bytey (l : List Nat) : Prop := ∀ b ∈ l, b < 256
theorem Bytey.getD {l : List Nat} (h : Bytey l) (j : Nat) : l.getD j 0 < 256 := by
  by_cases hj : j < l.length
  · have e : l.getD j 0 = l[j] := by simp [hj]
    rw [e]
    exact h _ (List.getElem_mem hj)
  · have e : l.getD j 0 = 0 := by simp [Nat.le_of_not_lt hj]
    rw [e]; omega
/-- The word of the first i bytes. -/
def wordn (r : List Nat) (i : Nat) : Nat := (r.take i).foldl (fun w b => w * 256 + b) 0
theorem wordn_step {r : List Nat} {i : Nat} (h : i < r.length) : wordn r (i + 1) = wordn r i * 256 + r.getD i 0 := by
  unfold wordn
  rw [List.take_add_one, List.foldl_append]
  simp [h]
theorem wordn_lt {r : List Nat} (hb : Bytey r) (i : Nat) (h : i ≤ r.length) : wordn r i < 256 ^ i := by
  induction i with
  | zero => simp [wordn]
  | succ i ih =>
    rw [wordn_step (by omega), Nat.pow_succ]
    have := ih (by omega)
    have := hb.getD i
    omega
theorem or_byte (v b : Nat) (hv : v < 72057594037927936) (hb : b < 256) : bits BinOp.or IntKind.u64 ((v : Int) * 256) (b : Int) = ((v * 256 + b : Nat) : Int) := by
  rw [show (v : Int) * 256 = ((v * 256 : Nat) : Int) by omega]
  rw [bits_or_u64_nat _ _ (by omega) (by omega)]
  congr 1
  rw [Nat.mul_comm]
  exact (Nat.two_pow_add_eq_or_of_lt (i := 8) hb v).symm

/-- One method behind another: what came of the first. -/
theorem took_cases {g : Nat} {A : Option Addr} {n c : Nat} {l : List Nat} {a : Nat} {err : Int} {t : Nat} {z v : Value} {w : World} {e : Ending} {w' : World} (h : Took g A n c l a err t z v w e w') :
    (err = 0 ∧ e = .returned v ∧ RS w' g A n c l (a + t) 0 ∧ Kept (· = g) w w') ∨ (¬ err = 0 ∧ e = .returned z ∧ RS w' g A n c l a err ∧ Kept (· = g) w w') := h

def wordErr (r : List Nat) : Int := if r.length < 8 then 2 else 0
def fltErr (r : List Nat) : Int := if r.length < 8 then 2 else if Fl.told (wordn r 8) then 0 else 3
def textErr (r : List Nat) (most : Int) : Int :=
  if natErr r = 0 then (if max most 0 < (natVal r : Int) then 3 else if r.length - natTaken r < natVal r then 2 else 0) else natErr r
def textTaken (r : List Nat) : Nat := natTaken r + natVal r
/-- A text of such bytes. -/
def tstr (l : List Nat) : ByteArray := strOfNums (l.map (fun b : Nat => (b : Int)))
def textVal (r : List Nat) : ByteArray := tstr ((r.drop (natTaken r)).take (natVal r))

/-- 'string(b[s:s+v])'. -/
theorem conv_rd {W : World} {rb ro n c : Nat} {l : List Nat} (h : Rd W (some ⟨rb, ro, none⟩) n c l) {s v : Nat} (hs : s + v ≤ n) (hc : n ≤ c) :
    (convert 37 9 (.slice (if c = s then some ⟨rb, ro, none⟩ else some ⟨rb, ro + s, none⟩) (s + v - s) (c - s))).run Try.prog W = .ok (.string (tstr ((l.drop s).take v))) W := by
  rw [show s + v - s = v by omega]
  have hl := h.1
  by_cases e : c = s
  · have hv : v = 0 := by omega
    subst hv
    rw [if_pos e]
    exact run_convert_bytes_arg W 37 5 Try.underlying37 Try.underlying5 rb ro 0 _ [] rfl (fun i hi => by omega) 9 Try.underlying9
  · rw [if_neg e]
    refine run_convert_bytes_arg W 37 5 Try.underlying37 Try.underlying5 rb (ro + s) v _ (((l.drop s).take v).map (fun b : Nat => (b : Int))) ?_ (fun i hi => ?_) 9 Try.underlying9
    · rw [List.length_map, List.length_take, List.length_drop]; omega
    · obtain ⟨rb', ro', e', hcell⟩ := h.at_ (j := s + i) (by omega)
      cases e'
      rw [Nat.add_assoc, hcell]
      have hi2 : s + i < l.length := by omega
      simp [List.getElem?_drop, hi, hi2]

end Go.Proofs.Ytgenmebmdpnjhaa
