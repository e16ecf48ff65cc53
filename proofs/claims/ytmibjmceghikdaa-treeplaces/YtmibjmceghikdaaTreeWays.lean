
/- TreeWays: step by step Next leads from any broker to any other one, in as many steps as Dist says; back it is the same way. -/
import Derived.Test.YtmibjmceghikdaaTreeFrom
namespace Go.Proofs.Ytmibjmceghikdaa
open Go.RowKit
set_option linter.unusedVariables false

namespace Tr
/-- Where one is after so many steps from a towards b. -/
def along (l : List Int) (a b : Nat) : Nat → Nat
  | 0 => a
  | i + 1 => step l (along l a b i) b
theorem along_to (l : List Int) (a b : Nat) : ∀ i, i ≤ dist l a b → dist l (along l a b i) b + i = dist l a b ∧ along l a b i ≤ max a b := by
  intro i
  induction i with
  | zero => intro _; exact ⟨rfl, Nat.le_max_left _ _⟩
  | succ i ih =>
    intro hi
    obtain ⟨h1, h2⟩ := ih (by omega)
    have hne : along l a b i ≠ b := by intro e; rw [e, dist_self] at h1; omega
    obtain ⟨-, h4, h5⟩ := step_near l hne
    exact ⟨by rw [along]; omega, by rw [along]; omega⟩
theorem along_near {l : List Int} {a b i : Nat} (hi : i < dist l a b) : near l (along l a b i) (along l a b (i + 1)) := by
  have h1 := (along_to l a b i (by omega)).1
  exact (step_near l (by intro e; rw [e, dist_self] at h1; omega)).1
theorem along_end (l : List Int) (a b : Nat) : along l a b (dist l a b) = b := dist_zero (l := l) (by have := (along_to l a b _ (Nat.le_refl _)).1; omega)
theorem along_far (l : List Int) (a b : Nat) : ∀ i, i ≤ dist l a b → dist l (along l a b i) a ≤ i := by
  intro i
  induction i with
  | zero => intro _; rw [along, dist_self]; exact Nat.le_refl _
  | succ i ih =>
    intro hi
    have := (near_dist (along_near (l := l) (a := a) (b := b) (i := i) (by omega)) a).1
    have := ih (by omega)
    omega
theorem along_rest (l : List Int) (a b i : Nat) : ∀ j, i + j ≤ dist l a b → dist l (along l a b (i + j)) a ≤ dist l (along l a b i) a + j := by
  intro j
  induction j with
  | zero => intro _; exact Nat.le_refl _
  | succ j ih =>
    intro hj
    have := (near_dist (along_near (l := l) (a := a) (b := b) (i := i + j) (by omega)) a).1
    have := ih (by omega)
    rw [show i + (j + 1) = i + j + 1 by omega]
    omega
theorem along_from (l : List Int) (a b : Nat) {i : Nat} (hi : i ≤ dist l a b) : dist l (along l a b i) a = i := by
  have h1 := along_far l a b i hi
  have h2 := along_rest l a b i (dist l a b - i) (by omega)
  rw [show i + (dist l a b - i) = dist l a b by omega, along_end, dist_comm] at h2
  omega
theorem along_back {l : List Int} {a b i : Nat} (hi : i < dist l a b) : step l (along l a b (i + 1)) a = along l a b i := by
  have h := near_symm (along_near hi)
  refine (near_dist h a).2.2 ?_
  rw [along_from l a b (by omega), along_from l a b (by omega)]
/-- The brokers on the way, so far. -/
def sofar (l : List Int) (a b i : Nat) : List Nat := (List.range (i + 1)).map (along l a b)
theorem sofar_snoc (l : List Int) (a b i : Nat) : sofar l a b (i + 1) = sofar l a b i ++ [along l a b (i + 1)] := by
  unfold sofar; rw [List.range_succ, List.map_append]; rfl
theorem sofar_len (l : List Int) (a b i : Nat) : (sofar l a b i).length = i + 1 := by unfold sofar; rw [List.length_map, List.length_range]
theorem sofar_get (l : List Int) (a b : Nat) {i j : Nat} (h : j ≤ i) : (ints (sofar l a b i))[j]? = some (along l a b j : Int) := by
  rw [ints_get]; unfold sofar; rw [List.getElem?_map, List.getElem?_range (by omega)]; rfl
theorem any_take {L : List Int} {n u : Int} {k : Nat} (h : L[k]? = some u) : (L.take (k + 1)).any (· == n) = ((L.take k).any (· == n) || (u == n)) := by
  obtain ⟨hk, he⟩ := List.getElem?_eq_some_iff.1 h
  rw [List.take_add_one, h, List.any_append]
  simp
end Tr
theorem dists_at {l : List Int} {x y : Nat} (h : Tr.right l = true) (hx : x ≤ l.length) (hy : y ≤ l.length) : Tr.dists l (x : Int) (y : Int) = (Tr.dist l x y : Int) := by
  unfold Tr.dists; rw [if_pos (Tr.has_both h hx hy), Int.toNat_natCast, Int.toNat_natCast]
theorem next_at {l : List Int} {x y : Nat} (h : Tr.right l = true) (hx : x ≤ l.length) (hy : y ≤ l.length) (hne : x ≠ y) : Tr.next l (x : Int) (y : Int) = (Tr.step l x y : Int) := by
  unfold Tr.next; rw [if_pos ⟨Tr.has_both h hx hy, by omega⟩, Int.toNat_natCast, Int.toNat_natCast]
theorem next_self (l : List Int) (x : Nat) : Tr.next l (x : Int) (x : Int) = -1 := by unfold Tr.next; rw [if_neg (by simp)]
theorem nears_at {l : List Int} {x : Nat} (h : Tr.right l = true) (hx : x ≤ l.length) : Tr.nears l (x : Int) = Tr.ints (Tr.nearN l x) := by
  unfold Tr.nears; rw [if_pos (Tr.has_self h hx), Int.toNat_natCast]
theorem load_later {w w' : World} (h : Below w.heap.size w w') {p : Addr} {v : Value} (hc : w.cell? p = some v) : w'.cell? p = some v := (h.cell (World.block_lt_of_cell? w _ hc)).trans hc
theorem OwnI.sized {B : Nat} {w : World} {A : Option Addr} {c n : Nat} {l : List Int} (h : OwnI B w (.slice A l.length c) l) (hn : l.length = n) : OwnI B w (.slice A n c) l := by subst hn; exact h
theorem pick_at (z : Int) {l : List Int} : ∃ x : Nat, z % ((l.length : Int) + 1) = (x : Int) ∧ x ≤ l.length := by
  have h1 := Int.emod_nonneg z (show (l.length : Int) + 1 ≠ 0 by omega)
  have h2 := Int.emod_lt_of_pos z (show 0 < (l.length : Int) + 1 by omega)
  exact ⟨(z % ((l.length : Int) + 1)).toNat, by omega, by omega⟩
/-- The Feed's tree, as the statements have it: a right row that the world behind it has. -/
def FedPost (w : World) (e : Ending) (W : World) : Prop := ∃ A c p, e = .returned (.slice A (List.length p) c) ∧ Ri W A p.length p ∧ Tr.right p = true ∧ p.length ≤ 7 ∧ Below w.heap.size w W ∧ ∀ ad, A = some ad → p.length ≠ 0 → w.heap.size < ad.block ∧ ad.block < W.heap.size
theorem fed_any {w : World} {A : Option Addr} {n c : Nat} (h : Draws w.heap.size w A n) (t : TypeId) :
    Calls Try.prog 27 #[.pointer (some ⟨w.heap.size, 0, none⟩), .int .i64 8] (w.alloc (.cells #[.slice A n c, .int .i64 0] t)) (FedPost w) := by
  refine (feedtree_any _ (by omega) (feed_new (cap := c) h t)).mono ?_
  rintro e W ⟨v, L, rfl, hv, hL, hf, hk⟩
  obtain ⟨A1, c1, rfl, -, hr, hA⟩ := hv.reads
  have hsz : w.heap.size < (w.alloc (.cells #[.slice A n c, .int .i64 0] t)).heap.size := by rw [World.size_alloc]; omega
  refine ⟨A1, c1, L, rfl, hr, hL, Tr.right_len hL, (new_below w _).trans (hk.below (Nat.le_of_lt hsz) (fun k hk e => by omega)), fun ad e h0 => ?_⟩
  rcases hA with ⟨rfl, -⟩ | ⟨g, rfl, h1, h2⟩
  · cases e
  · cases e; exact ⟨Nat.lt_of_lt_of_le hsz h1, h2⟩

set_option maxRecDepth 100000 in
set_option maxHeartbeats 16000000 in
theorem tways_walk (w : World) (A0 : Option Addr) (n0 c0 : Nat) (z0 : List Int) (h0 : IsRow .i64 w A0 n0 c0 z0) (a : Int) (ha : (Lit.int .i64 a).wf = true) (b : Int) (hb : (Lit.int .i64 b).wf = true) :
    Calls Try.prog 5 #[.slice A0 n0 c0, .int .i64 a, .int .i64 b] w fun e w' => e = .returned (.bool true) ∧ Below w.heap.size w w' := by
  have HFN := Lib.hid (fun t => fed_any (c := c0) h0.draws t)
  clear h0 ha hb
  go_enter Try.func5, Try.ntmps5
  go_wp2_with fail
  refine (HFN.out _).mono ?_
  rintro e W ⟨Ap, cp, p, rfl, hp, hr, h7, hB, -⟩
  have HP := Lib.hid hp
  have HR := Lib.hid hr
  have HBW := Lib.hid hB
  clear hp hr hB HFN
  obtain ⟨x, hx, hxl⟩ := pick_at a (l := p)
  obtain ⟨y, hy, hyl⟩ := pick_at b (l := p)
  have HX := Lib.hid hx
  have HY := Lib.hid hy
  clear hx hy
  go_wp2_with (first | (go_at_call 25; refine (pick_any _ ((p.length : Int) + 1) (by omega) (by omega) _).mono ?_; rintro e w' ⟨rfl, rfl⟩; first | rw [HX.out] | rw [HY.out]))
  clear HX HY
  have hd := Tr.dist_le p _ x y (Nat.le_refl _)
  have hdp : Tr.dist p x y ≤ p.length := by omega
  have DXY := Lib.hid (dists_at HR.out hxl hyl)
  have DYX := Lib.hid ((dists_at HR.out hyl hxl).trans (by rw [Tr.dist_comm]))
  have HD0 : Hid (Tr.dist p x y = 0 ↔ x = y) := Lib.hid ⟨Tr.dist_zero, fun e => by rw [e, Tr.dist_self]⟩
  have hz : (!(((Tr.dist p x y : Int) == 0) == ((x : Int) == (y : Int)))) = false := by
    by_cases e : x = y
    · have h := HD0.out.2 e
      rw [e] at h ⊢
      rw [h]; simp
    · have h : ¬ Tr.dist p x y = 0 := fun h => e (HD0.out.1 h)
      have h1 : ((Tr.dist p x y : Int) == 0) = false := by rw [beq_eq_false_iff_ne]; omega
      have h2 : ((x : Int) == (y : Int)) = false := by rw [beq_eq_false_iff_ne]; omega
      rw [h1, h2]; rfl
  have HAT := Lib.hid (fun i => Tr.along_to p x y i)
  have HAE := Lib.hid (Tr.along_end p x y)
  have HAN := Lib.hid (fun i (h : i < Tr.dist p x y) => Tr.along_near h)
  have HAB := Lib.hid (fun i (h : i < Tr.dist p x y) => Tr.along_back h)
  refine (dist_from HP.out (Below.refl _ _) (by omega) _ _).mono ?_
  rintro e w1 ⟨rfl, hl1⟩
  rw [DXY.out]
  have HL := Lib.hid hl1
  clear hl1 hd
  generalize hD : Tr.dist p x y = D at DXY DYX HD0 hz hdp HAT HAE HAN HAB ⊢
  have hda : decide ((D : Int) < 0) = false := decide_eq_false (by omega)
  have hdb : decide (p.length < D) = false := decide_eq_false (by omega)
  have hdc : decide ((p.length : Int) < (D : Int)) = false := decide_eq_false (by omega)
  go_wp2_with fail
  refine (known_any _).mono ?_
  rintro e w2 ⟨rfl, hk2⟩
  have HL2 := Lib.hid (then_below HL.out hk2)
  clear hk2 HL
  have HL := HL2
  clear HL2
  go_wp2_with (first | (go_at_call 13; refine (dist_from HP.out HL.out (by omega) _ _).mono ?_; rintro e w3 ⟨rfl, hl3⟩; rw [DYX.out]; have HL3 := Lib.hid hl3; clear hl3 HL))
  clear hz hda hdb hdc
  have hs3 := HL3.out.size
  go_loopw [10, 11, 12] (fun at_ xv ii wr => ∃ i : Nat, i ≤ D ∧ ii = .int .i64 (i : Int) ∧ at_ = .int .i64 (Tr.along p x y i : Int) ∧ OwnI W.heap.size wr xv (Tr.ints (Tr.sofar p x y i)) ∧ Below W.heap.size W wr) (fun _ _ ii _ => D - (intOf ii).toNat)
  case atStart => exact ⟨0, by omega, rfl, rfl, owni_new _ hs3 _, then_below HL3.out (new_below _ _)⟩
  case round =>
    clear HL3 hs3
    obtain ⟨i, hi, rfl, rfl, hv, hL⟩ := hrel
    obtain ⟨A1, c1, rfl, -, hr1, hA1⟩ := hv.reads
    have hsl : (Tr.ints (Tr.sofar p x y i)).length = i + 1 := by rw [Tr.ints_len, Tr.sofar_len]
    have HV := Lib.hid (hv.sized hsl)
    rw [hsl] at hr1 hA1 ⊢
    have HR1 := Lib.hid hr1
    have HA1 := Lib.hid hA1
    have HL := Lib.hid hL
    have HSL := Lib.hid (Nat.le_of_eq hsl)
    clear hv hL hr1 hA1 hsl
    by_cases hlt : i < D
    · have hlt' : (i : Int) < (D : Int) := by omega
      have t1 := HAT.out i (by omega)
      have t2 := HAT.out (i + 1) (by omega)
      have hne : Tr.along p x y i ≠ y := by intro e; rw [e, Tr.dist_self] at t1; omega
      have ha1 : Tr.along p x y i ≤ p.length := by omega
      have ha2 : Tr.along p x y (i + 1) ≤ p.length := by omega
      have HN1 := Lib.hid ((next_at HR.out ha1 hyl hne).trans (show ((Tr.step p (Tr.along p x y i) y : Nat) : Int) = (Tr.along p x y (i + 1) : Int) from rfl))
      have HD1 := Lib.hid ((dists_at HR.out ha2 hyl).trans (show ((Tr.dist p (Tr.along p x y (i + 1)) y : Nat) : Int) = (D : Int) - (i : Int) - 1 by omega))
      have HNE := Lib.hid (nears_at HR.out ha1)
      have HME := Lib.hid ((Tr.mem_near ha1).2 ⟨ha2, HAN.out i hlt⟩)
      have HSN := Lib.hid (Tr.sofar_snoc p x y i)
      have hnl := nears_len p (Tr.along p x y i : Int)
      rw [HNE.out, Tr.ints_len] at hnl
      clear t1 t2 hne
      generalize hve : Tr.along p x y (i + 1) = v at *
      have HVE := Lib.hid hve
      clear hve
      generalize Tr.along p x y i = u at *
      clear hlt
      go_wp2_with fail
      refine (next_any' (HP.out.later HL.out) (by omega) _ _).mono ?_
      rintro e w4 ⟨rfl, hk4⟩
      rw [HN1.out]
      have HL4 := Lib.hid (then_below HL.out hk4)
      have HV4 := Lib.hid (HV.out.later hk4)
      clear hk4
      go_wp2_with fail
      refine (near_from HP.out HL4.out (by omega) _).mono ?_
      rintro e w5 ⟨A2, c2, rfl, hr2, hk5, hl5, -⟩
      rw [HNE.out] at hr2 ⊢
      rw [Tr.ints_len] at hr2 ⊢
      have HR2 := Lib.hid hr2
      have HL5 := Lib.hid hl5
      have HV5 := Lib.hid (HV4.out.later hk5)
      clear hr2 hl5 hk5 HL4
      have HF0 := Lib.hid (show (Tr.ints (Tr.nearN p u)).any (· == (v : Int)) = true by rw [List.any_eq_true]; exact ⟨_, List.mem_map.2 ⟨v, HME.out, rfl⟩, by simp⟩)
      have HLN := Lib.hid (Tr.ints_len (Tr.nearN p u))
      generalize (Tr.nearN p u).length = m at HLN HR2 hnl ⊢
      generalize Tr.ints (Tr.nearN p u) = Ln at HF0 HR2 HLN
      go_wp2_with fail
      go_loopw [15, 16] (fun ff jj wr => ∃ k : Nat, k ≤ m ∧ jj = .int .i64 (k : Int) ∧ ff = .bool ((Ln.take k).any (· == (v : Int))) ∧ w5 = wr) (fun _ jj _ => m - (intOf jj).toNat)
      case atStart => exact ⟨0, by omega, rfl, rfl, rfl⟩
      case round =>
        obtain ⟨k, hk, rfl, rfl, rfl⟩ := hrel
        by_cases hlt2 : k < m
        · obtain ⟨rb, ro, t, rfl, ht, hc⟩ := HR2.out.at_ hlt2
          have HT := Lib.hid (Tr.any_take (n := (v : Int)) ht)
          clear ht
          cases hf : (Ln.take k).any (· == (v : Int))
          · have HT2 := Lib.hid (show (Ln.take (k + 1)).any (· == (v : Int)) = (t == (v : Int)) by rw [HT.out, hf, Bool.false_or])
            clear hf
            go_wp2_with fail
            exact ⟨⟨k + 1, by omega, by simp, by rw [HT2.out], trivial⟩, by simp [intOf]; omega⟩
          · have HT2 := Lib.hid (show (Ln.take (k + 1)).any (· == (v : Int)) = true by rw [HT.out, hf, Bool.true_or])
            clear hf
            go_wp2_with fail
            exact ⟨⟨k + 1, by omega, by simp, by rw [HT2.out], trivial⟩, by simp [intOf]; omega⟩
        · have hf : (Ln.take k).any (· == (v : Int)) = true := by
            rw [List.take_of_length_le (by have := HLN.out; omega)]; exact HF0.out
          rw [hf]
          clear hf
          have hwd : IntKind.i64.wrap (IntKind.i64.wrap ((D : Int) - (i : Int)) - 1) = (D : Int) - (i : Int) - 1 := by rw [IntWalk.i64_in ((D : Int) - (i : Int)) (by omega), IntWalk.i64_in _ (by omega)]
          go_wp2_with fail
          refine (dist_any (HP.out.later HL5.out) (by omega) _ _).mono ?_
          rintro e w6 ⟨rfl, hk6⟩
          rw [HD1.out]
          have HL6 := Lib.hid (then_below HL5.out hk6)
          have HV6 := Lib.hid (HV5.out.later hk6)
          clear hk6
          go_wp2_with (first | (at_builtin; refine wpList_owni rfl _ _ rfl W.heap.size _ _ rfl HV6.out _ rfl (by have := HSL.out; omega) ?_; intro v1 w7 hv1 hk1; have HV7 := Lib.hid hv1; have HL7 := Lib.hid (below_behind HL6.out hk1); clear hv1 hk1))
          refine ⟨⟨i + 1, by omega, by simp, ?_, ?_, HL7.out⟩, by simp [intOf]; omega⟩
          · rw [HVE.out]
          · rw [HSN.out, Tr.ints_snoc]
            exact HV7.out
    · obtain rfl : i = D := by omega
      rw [HAE.out]
      clear hlt HV HA1 HSL
      go_wp2_with fail
      go_loopw [17] (fun ii wr => ∃ k : Nat, k ≤ i ∧ ii = .int .i64 (k : Int) ∧ Ri wr A1 (i + 1) (Tr.ints (Tr.sofar p x y i)) ∧ Below W.heap.size W wr) (fun ii _ => (intOf ii).toNat)
      case atStart => exact ⟨i, Nat.le_refl _, rfl, HR1.out, HL.out⟩
      case round =>
        clear HR1 HL
        obtain ⟨k, hk, rfl, hr3, hL3⟩ := hrel
        have HL := Lib.hid hL3
        have HR3 := Lib.hid hr3
        by_cases h0 : 0 < k
        · obtain ⟨j, rfl⟩ : ∃ j, k = j + 1 := ⟨k - 1, by omega⟩
          obtain ⟨rb, ro, u1, e1, hu1, hc1⟩ := hr3.at_ (j := j + 1) (by omega)
          obtain ⟨rb', ro', u2, e2, hu2, hc2⟩ := hr3.at_ (j := j) (by omega)
          rw [e1] at e2
          cases e2
          subst e1
          rw [Tr.sofar_get p x y (by omega)] at hu1 hu2
          cases hu1
          cases hu2
          have t1 := HAT.out (j + 1) (by omega)
          have ha1 : Tr.along p x y (j + 1) ≤ p.length := by omega
          have hnx : Tr.along p x y (j + 1) ≠ x := by
            intro e
            have := Tr.along_from p x y (i := j + 1) (by omega)
            rw [e, Tr.dist_self] at this; omega
          have HN1 := Lib.hid ((next_at HR.out ha1 hxl hnx).trans (by rw [HAB.out j (by omega)]))
          have KN := Lib.hid (fun z : Later wr => show Calls Try.prog 11 #[.slice Ap p.length cp, .int .i64 (Tr.along p x y (j + 1) : Int), .int .i64 (x : Int)] z.at_ fun e w' => e = .returned (.int .i64 (Tr.along p x y j : Int)) ∧ Below z.at_.heap.size z.at_ w' by
            have := next_any' (c := cp) ((HP.out.later HL.out).later z.below) (by omega) (Tr.along p x y (j + 1) : Int) (x : Int)
            rw [HN1.out] at this
            exact this)
          have c1 := fun z : Later wr => later_cell hc1 z
          have c2 := fun z : Later wr => later_cell hc2 z
          have hw : IntKind.i64.wrap ((j : Int) + 1 - 1) = (j : Int) := by rw [IntWalk.i64_in _ (by omega)]; omega
          clear hc1 hc2 t1 ha1 hnx HN1 hr3 hL3
          generalize Tr.along p x y (j + 1) = u at KN c1
          generalize Tr.along p x y j = v at KN c2
          haveI := later_some wr
          go_wp2_with fail
          refine wp_region_later (W := wr) (by kernel_rfl) (by kernel_rfl) (Below.refl _ _) ?_
          repeat (go_big_quiet_step (first | (go_at_call 11; exact calls_later (KN.out _))))
          refine wpQuiet_nil ?_
          rintro _ ⟨z, rfl⟩
          go_wp2_with fail
          exact ⟨⟨j, by omega, by simp, HR3.out.later z.below, then_below HL.out z.below⟩, by simp [intOf]⟩
        · obtain rfl : k = 0 := by omega
          have HNS := Lib.hid (next_self p y)
          clear hr3 hL3
          go_wp2_with (first | (go_at_call 11; refine (next_from HP.out HL.out (by omega) _ _).mono ?_; rintro e w9 ⟨rfl, hl9⟩; rw [HNS.out]; have HL9 := Lib.hid hl9; clear hl9))
          go_ret
          exact ⟨rfl, then_below HBW.out HL9.out⟩
end Go.Proofs.Ytmibjmceghikdaa
