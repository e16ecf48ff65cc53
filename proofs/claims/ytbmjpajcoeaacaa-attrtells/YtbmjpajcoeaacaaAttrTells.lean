
/- AttrTells: the walk. -/
import Derived.Test.YtbmjpajcoeaacaaAttsFn
import Derived.Test.YtbmjpajcoeaacaaOpenAtts
import Derived.Test.YtbmjpajcoeaacaaAttrFinds
namespace Go.Proofs.Ytbmjpajcoeaacaa
open Go.RowKit

theorem names_at (w : World) (s : ByteArray) (hs : s.size ≤ 9223372036854775807) (q : Nat) (hq : q < 4) : ∃ sk : ByteArray, sk.size ≤ 9223372036854775807 ∧
    (Instr.index 43 (Value.agg #[Value.string s, Value.string ⟨#[97]⟩, Value.string ⟨#[108, 111, 110, 103]⟩, Value.string ⟨#[]⟩]) (Value.int IntKind.i64 (q : Int))).run Try.prog w = .ok (.string sk) w := by
  match q, hq with
  | 0, _ => exact ⟨s, hs, by kernel_rfl⟩
  | 1, _ => exact ⟨⟨#[97]⟩, by decide, by kernel_rfl⟩
  | 2, _ => exact ⟨⟨#[108, 111, 110, 103]⟩, by decide, by kernel_rfl⟩
  | 3, _ => exact ⟨⟨#[]⟩, by decide, by kernel_rfl⟩

set_option maxRecDepth 100000 in
set_option maxHeartbeats 8000000 in
theorem atells_walk (w : World) (A : Option Addr) (n c : Nat) (l : List Att) (hA : IsAtts w A n c l) (A' : Option Addr) (n' c' : Nat) (l' : List Att) (hA' : IsAtts w A' n' c' l') (L : Option Addr) (len cap : Nat) (hd : Draws w.heap.size w L len) (s : ByteArray) (hs : s.size ≤ 140737488351232) :
    Calls Try.prog 4 #[.slice A n c, .slice A' n' c', .slice L len cap, .string s] w fun e w' => e = .returned (.bool true) ∧ Below w.heap.size w w' := by
  have hF0 := Lib.hid (feed_new (cap := cap) hd 40)
  have hB0 := one_new w (.cells #[.slice L len cap, .int .i64 0] 40)
  have HA0 := Lib.hid (hA.reads.later hB0)
  have HA0' := Lib.hid (hA'.reads.later hB0)
  have HX0 : Hid (∀ x, A = some x → x.spot = none ∧ x.block ≠ w.heap.size ∧ x.block < (w.alloc (.cells #[.slice L len cap, .int .i64 0] 40)).heap.size) := fun x e => by have h := hA.spot x e; have := hB0.size; exact ⟨h.1, by omega, by omega⟩
  have HX0' : Hid (∀ x, A' = some x → x.spot = none ∧ x.block ≠ w.heap.size ∧ x.block < (w.alloc (.cells #[.slice L len cap, .int .i64 0] 40)).heap.size) := fun x e => by have h := hA'.spot x e; have := hB0.size; exact ⟨h.1, by omega, by omega⟩
  have HB0 := Lib.hid hB0
  have hr := hA.room
  have hr' := hA'.room
  have HN := Lib.hid hA.none_
  have HN' := Lib.hid hA'.none_
  clear hd hA hA' hB0
  go_enter Try.func4, Try.ntmps4
  go_wp2_with fail
  refine (atts_any _ (by omega) hF0.out HA0.out hr HN.out HX0.out (s := s) (by omega)).mono ?_
  rintro e w1 ⟨A1, n1, c1, l1, rfl, h81, hc1, hn1, ha1, hx1, hF1, hK1⟩
  have HF1 := Lib.hid hF1
  have HK1 : Hid (Kept (· = w.heap.size) w w1) := (Kept.ofBelow HB0.out).then hK1
  have HA1 := Lib.hid ha1
  have HX1 := Lib.hid hx1
  have HN1 := Lib.hid hn1
  have HA1' := Lib.hid (HA0'.out.kept hK1 (fun x e => (HX0'.out x e).2.1))
  have HX1' : Hid (∀ x, A' = some x → x.spot = none ∧ x.block ≠ w.heap.size ∧ x.block < w1.heap.size) := fun x e => by have h := HX0'.out x e; have := hK1.size; exact ⟨h.1, h.2.1, by omega⟩
  clear ha1 hx1 hn1 hF1 hK1 HA0 HA0' HX0 HX0' HN HB0 hF0 hr
  go_wp2_with fail
  refine (atts_any _ (by omega) HF1.out HA1'.out hr' HN'.out HX1'.out (s := s) (by omega)).mono ?_
  rintro e w2 ⟨A2, n2, c2, l2, rfl, h82, hc2, hn2, ha2, hx2, hF2, hK2⟩
  have HF2 := Lib.hid hF2
  have HK2 := Lib.hid (HK1.out.then hK2)
  have HA2 := Lib.hid ha2
  have HX2 := Lib.hid hx2
  have HA12 := Lib.hid (HA1.out.kept hK2 (fun x e => (HX1.out x e).1))
  clear ha2 hn2 hx2 hF2 hK2 HA1' HX1' HN' hr' HA1 HF1 HK1
  go_wp2_with fail
  refine (next_any (a := 0 + 20 + 20) 3 (by omega) (by omega) _ (by omega) HF2.out).mono ?_
  rintro e w3 ⟨k, hk, rfl, hF3, hK3, hs3⟩
  have HB3 : Hid (Below w.heap.size w w3) := (HK2.out.then hK3).below (Nat.le_refl _) (fun i hi e => by omega)
  have HA3 := Lib.hid (HA2.out.kept hK3 (fun x e => (HX2.out x e).1))
  have HA13 := Lib.hid (HA12.out.kept hK3 (fun x e => (HX1.out x e).1))
  clear hF3 hK3 hs3 HA2 HX2 HA12 HX1 HF2 HK2
  go_upto_if 31 with fail
  go_cut [11] (fun s11 wx => ∃ (A3 : Option Addr) (n3 c3 : Nat) (l3 : List Att), s11 = .slice A3 n3 c3 ∧ Ats wx A3 n3 l3 ∧ Ats wx A1 n1 l1 ∧ Below w.heap.size w wx)
  case first =>
    by_cases hk0 : (k : Int) = 0
    case neg =>
      go_wp2_with fail
      go_meet
      exact ⟨_, _, _, _, rfl, HA3.out, HA13.out, HB3.out⟩
    case pos =>
      have HO0 : Hid (OwnW 6 w3.heap.size 27 (w3.alloc (.cells #[] 27)) (.slice (some ⟨w3.heap.size, 0, none⟩) 0 0) 0 []) := OwnW.of_row (Nat.le_refl _) (heap_alloc_new _ _) rfl (by unfold maxLen; omega)
      go_wp2_with (first | (at_builtin; refine wpList_ownw (k := 6) rfl _ _ 28 rfl Try.underlying28 att_info rfl (by decide) w3.heap.size _ 0 [] rfl HO0.out A1 n1 c1 rfl HN1.out (flat l1) (HA13.out.row.later (one_new _ _)) (flat_one _) (by omega) (by decide) ?_; intro v4 w4 hO4 hK4; have HO4 := Lib.hid hO4; have HK4 := Lib.hid hK4; clear hO4 hK4))
      have hb4 : Below w3.heap.size w3 w4 := (one_new w3 _).trans (HK4.out.below (one_new w3 _).size (fun i hi e => by have := Option.some.inj (show some w3.heap.size = some i from e); omega))
      have hO4 := HO4.out
      rw [Nat.zero_add, List.nil_append] at hO4
      obtain ⟨A4, c4, rfl, -⟩ := hO4.reads
      go_meet
      exact ⟨_, _, _, _, rfl, hO4.ats HA13.out.names, HA13.out.later hb4, below_then HB3.out hb4⟩
  case rest =>
    obtain ⟨A3, n3, c3, l3, rfl, ha3, ha1, hb3⟩ := hcut
    have HAB := Lib.hid ha3
    have HAA := Lib.hid ha1
    have HBB := Lib.hid hb3
    clear ha3 ha1 hb3 HA3 HA13 HB3
    go_wp2_with fail
    go_loopw [37] (fun ii wr => ∃ k : Nat, k ≤ 4 ∧ ii = .int .i64 (k : Int) ∧ Below wc.heap.size wc wr) (fun ii _ => 4 - (intOf ii).toNat)
    case atStart => exact ⟨0, by omega, rfl, Below.refl _ _⟩
    case round =>
      obtain ⟨q, hq, rfl, hB⟩ := hrel
      have HB := Lib.hid hB
      clear hB
      by_cases hq4 : (q : Int) < 4
      · obtain ⟨sk, hsk, hix⟩ := names_at wr s (by omega) q (by omega)
        have hst := store_float
        have hself := Vl.same_self (At.got l1 sk)
        have HSelf := Lib.hid hself
        clear hself
        go_wp2_with fail
        refine (get_any (HAA.out.later HB.out)).mono ?_
        rintro e w4 ⟨rfl, hb4⟩
        have HB4 := Lib.hid (below_then HB.out hb4)
        clear hb4 HB hix
        unfold gotv vlv
        generalize hv : At.got l1 sk = gv at HSelf ⊢
        obtain ⟨vk, vn, vx, vs, vb⟩ := gv
        generalize hh : At.has l1 sk = gh
        have hV : gotv l1 sk = .tuple #[vl vk vn vx vs vb, .bool gh] := by unfold gotv; rw [hv, hh]
        have HV := Lib.hid hV
        clear hv hh hV
        go_upto_region 10 with fail
        have HR4 : Hid ((w4.alloc (.cells #[.int .i64 vk, .int .i64 vn, .float .f64 vx, .string vs, .bool vb] 24)).heap[w4.heap.size]? = some (.cells #[.int .i64 vk, .int .i64 vn, .float .f64 vx, .string vs, .bool vb] 24 (0, 0))) := heap_alloc_new _ _
        have HB5 := Lib.hid (below_then HB4.out (one_new w4 (.cells #[.int .i64 vk, .int .i64 vn, .float .f64 vx, .string vs, .bool vb] 24)))
        clear HB4
        generalize w4.alloc (.cells #[.int .i64 vk, .int .i64 vn, .float .f64 vx, .string vs, .bool vb] 24) = w5 at HR4 HB5 ⊢
        generalize w4.heap.size = p4 at HR4 ⊢
        clear w4
        go_wp2_with fail
        refine (rget_any (HAA.out.later HB5.out)).mono ?_
        rw [HV.out]
        rintro e w6 ⟨rfl, hb6⟩
        have HB6 := Lib.hid (below_then HB5.out hb6)
        have HR6 := Lib.hid (below_row hb6 HR4.out)
        clear hb6 HB5 HR4 HV w5
        go_upto_region 11 with fail
        have HR7 : Hid ((w6.alloc (.cells #[.int .i64 vk, .int .i64 vn, .float .f64 vx, .string vs, .bool vb] 24)).heap[w6.heap.size]? = some (.cells #[.int .i64 vk, .int .i64 vn, .float .f64 vx, .string vs, .bool vb] 24 (0, 0))) := heap_alloc_new _ _
        have HB7 := Lib.hid (below_then HB6.out (one_new w6 (.cells #[.int .i64 vk, .int .i64 vn, .float .f64 vx, .string vs, .bool vb] 24)))
        replace HR6 := Lib.hid (below_row (one_new w6 (.cells #[.int .i64 vk, .int .i64 vn, .float .f64 vx, .string vs, .bool vb] 24)) HR6.out)
        clear HB6
        generalize w6.alloc (.cells #[.int .i64 vk, .int .i64 vn, .float .f64 vx, .string vs, .bool vb] 24) = w7 at HR6 HR7 HB7 ⊢
        generalize w6.heap.size = p6 at HR7 ⊢
        clear w6
        have v0 := cell_of_row _ _ 0 _ _ _ HR6.out
        have v1 := cell_of_row _ _ 1 _ _ _ HR6.out
        have v2 := cell_of_row _ _ 2 _ _ _ HR6.out
        have v3 := cell_of_row _ _ 3 _ _ _ HR6.out
        have v4 := cell_of_row _ _ 4 _ _ _ HR6.out
        have d0 := cell_of_row _ _ 0 _ _ _ HR7.out
        have d1 := cell_of_row _ _ 1 _ _ _ HR7.out
        have d2 := cell_of_row _ _ 2 _ _ _ HR7.out
        have d3 := cell_of_row _ _ 3 _ _ _ HR7.out
        have d4 := cell_of_row _ _ 4 _ _ _ HR7.out
        have hgg : (gh != gh) = false := by cases gh <;> rfl
        go_wp2_with fail
        refine (rvsame_any _ _ _ _ _ _ _ _ _ _ _).mono ?_
        rw [HSelf.out]
        rintro e w8 ⟨rfl, hb8⟩
        have HB8 := Lib.hid (below_then HB7.out hb8)
        clear hb8 HB7 v0 v1 v2 v3 v4 d0 d1 d2 d3 d4 HR6 HR7
        have hww : (At.word sk != At.word sk) = false := by cases At.word sk <;> rfl
        go_wp2_with (first | (go_at_call 11; refine (word_any _ hsk _).mono ?_; rintro e w' ⟨rfl, rfl⟩) | (go_at_call 18; refine (rword_any _ hsk _).mono ?_; rintro e w' ⟨rfl, rfl⟩))
        exact ⟨⟨q + 1, by omega, rfl, HB8.out⟩, by simp [intOf]; omega⟩
      · have HA4 := Lib.hid (HAA.out.later HB.out)
        have HC4 := Lib.hid (HAB.out.later HB.out)
        have HW4 := Lib.hid (below_then HBB.out HB.out)
        clear HAA HAB HBB HB
        go_wp2_with fail
        refine (known_any _).mono ?_
        rintro e w5 ⟨rfl, hb5⟩
        replace HA4 := Lib.hid (HA4.out.later hb5)
        replace HC4 := Lib.hid (HC4.out.later hb5)
        replace HW4 := Lib.hid (below_then HW4.out hb5)
        clear hb5
        go_wp2_with fail
        refine (aright_any HA4.out).mono ?_
        rintro e w6 ⟨rfl, hb6⟩
        replace HA4 := Lib.hid (HA4.out.later hb6)
        replace HC4 := Lib.hid (HC4.out.later hb6)
        replace HW4 := Lib.hid (below_then HW4.out hb6)
        clear hb6 w5
        go_wp2_with fail
        refine (rright_any HA4.out).mono ?_
        rintro e w7 ⟨rfl, hb7⟩
        replace HA4 := Lib.hid (HA4.out.later hb7)
        replace HC4 := Lib.hid (HC4.out.later hb7)
        replace HW4 := Lib.hid (below_then HW4.out hb7)
        clear hb7 w6
        have t1 : (At.right l1 == At.right l1) = true := beq_self_eq_true _
        go_wp2_with fail
        refine (asame_any HA4.out HC4.out).mono ?_
        rintro e w8 ⟨rfl, hb8⟩
        replace HA4 := Lib.hid (HA4.out.later hb8)
        replace HC4 := Lib.hid (HC4.out.later hb8)
        replace HW4 := Lib.hid (below_then HW4.out hb8)
        clear hb8 w7
        go_wp2_with fail
        refine (rsame_any HA4.out HC4.out).mono ?_
        rintro e w9 ⟨rfl, hb9⟩
        replace HA4 := Lib.hid (HA4.out.later hb9)
        replace HW4 := Lib.hid (below_then HW4.out hb9)
        clear hb9 w8 HC4
        have t2 : (At.same l1 l3 == At.same l1 l3) = true := beq_self_eq_true _
        go_wp2_with fail
        refine (copy_any HA4.out (by omega)).mono ?_
        rintro e w10 ⟨rfl, hr10, hb10⟩
        have hO : OwnW 6 w9.heap.size 27 w10 (.slice (some ⟨w9.heap.size, 0, none⟩) n1 n1) n1 (flat l1) := OwnW.of_row (Nat.le_refl _) hr10 HA4.out.row.1 (by unfold maxLen; omega)
        have HC := Lib.hid (hO.ats HA4.out.names)
        replace HA4 := Lib.hid (HA4.out.later hb10)
        replace HW4 := Lib.hid (below_then HW4.out hb10)
        clear hb10 hr10 hO
        go_wp2_with fail
        refine (rsame_any HC.out HA4.out).mono ?_
        rw [At.same_refl]
        rintro e w11 ⟨rfl, hb11⟩
        replace HW4 := Lib.hid (below_then HW4.out hb11)
        clear hb11
        go_wp2_with fail
        go_ret
        exact ⟨rfl, HW4.out⟩
theorem atells_below (w : World) (A : Option Addr) (n c : Nat) (l : List Att) (hA : IsAtts w A n c l) (A' : Option Addr) (n' c' : Nat) (l' : List Att) (hA' : IsAtts w A' n' c' l') (L : Option Addr) (len cap : Nat) (zs : List Int) (hr : IsRow .i64 w L len cap zs) (s : ByteArray) (hs : s.size ≤ 140737488351232) :
    Calls Try.prog 4 #[.slice A n c, .slice A' n' c', .slice L len cap, .string s] w fun e w' => e = .returned (.bool true) ∧ Below w.heap.size w w' := atells_walk w A n c l hA A' n' c' l' hA' L len cap hr.draws s hs
end Go.Proofs.Ytbmjpajcoeaacaa
