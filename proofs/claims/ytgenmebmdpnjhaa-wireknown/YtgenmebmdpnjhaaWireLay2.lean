
/- wire.addEvent: the contract. -/
import Derived.Test.YtgenmebmdpnjhaaWireLay1
namespace Go.Proofs.Ytgenmebmdpnjhaa
open Go.RowKit
set_option linter.unusedVariables false
set_option maxRecDepth 100000

theorem flat_next {α : Type} {f : α → List Nat} {l : List α} {k : Nat} {a : α} (h : l[k]? = some a) : (l.take (k + 1)).flatMap f = (l.take k).flatMap f ++ f a := by
  rw [List.take_add_one, h, List.flatMap_append]; simp
theorem natws_len (ns : List Int) : (ns.flatMap natw).length ≤ 9 * ns.length := by
  induction ns with
  | nil => simp
  | cons n ns ih => rw [List.flatMap_cons, List.length_append, List.length_cons]; have := natw_len n; omega
/-- An Event that can be laid. -/
structure EvLays (e : Ev) : Prop where
  names : ∀ a, a ∈ e.l → a.name.size ≤ 100 ∧ Lays a.v
  few : e.l.length ≤ 100
  stamps : e.t.length ≤ 200

set_option maxHeartbeats 16000000 in
theorem addevent_any {B : Nat} {v : Value} {l : List Nat} {e : Ev} {W0 w : World} (hB : W0.heap.size = B) (h : OwnB B w v l) (he : IsEv W0 e) (hs : EvLays e) (hb : Below B W0 w) (hl : l.length ≤ 1000) :
    Calls Try.prog 15 #[v, evv e] w (AddPost B (l ++ eventb e) w) := by
  subst hB
  have hn := one_new w (evbox e)
  have HR := Lib.hid (heap_alloc_new w (evbox e))
  have HO := Lib.hid (h.later hn)
  have HK0 := Lib.hid (Keep.later h.2 hn)
  have HB := Lib.hid (hb.trans (below_sub hn h.2))
  have HE := Lib.hid he
  have HS := Lib.hid hs
  have hfew := hs.few
  have hst := hs.stamps
  clear h hn he hs hb
  have hsf := store_float
  have HEV : Hid (eventb e = [e.c, e.b, e.s, e.e, e.a].flatMap natw ++ (natw e.l.length ++ (e.l.flatMap attb ++ (natw e.t.length ++ e.t.flatMap stb)))) := Lib.hid rfl
  go_enter Try.func15, Try.ntmps15
  go_upto_region 1 with fail
  dsimp only [evbox] at HR HO HK0 HB
  generalize w.alloc _ = w1 at HR HO HK0 HB ⊢
  generalize w.heap.size = g at HR ⊢
  have c0 := cell_of_row _ _ 0 _ _ _ HR.out
  have c1 := cell_of_row _ _ 1 _ _ _ HR.out
  have c2 := cell_of_row _ _ 2 _ _ _ HR.out
  have c3 := cell_of_row _ _ 3 _ _ _ HR.out
  have c4 := cell_of_row _ _ 4 _ _ _ HR.out
  go_wp2_with fail
  refine (addnats_new [e.c, e.b, e.s, e.e, e.a] HO.out (by show l.length + 9 * 5 ≤ 900000; omega) 5 rfl _ rfl).mono ?_
  rintro r w2 ⟨v2, rfl, hO, hK⟩
  have h5 : ([e.c, e.b, e.s, e.e, e.a].flatMap natw).length ≤ 45 := natws_len [e.c, e.b, e.s, e.e, e.a]
  generalize [e.c, e.b, e.s, e.e, e.a].flatMap natw = five5 at hO HEV h5
  have HO2 := Lib.hid hO
  have HR2 := Lib.hid (hK.obj _ _ _ _ HR.out (by decide))
  have HK2 := Lib.hid (HK0.out.then hK)
  have HB2 := Lib.hid (HB.out.trans hK.below)
  clear hO hK HR HO HK0 HB c0 c1 c2 c3 c4
  have c5 := cell_of_row _ _ 5 _ _ _ HR2.out
  have hlen2 : (l ++ five5).length ≤ 1045 := by rw [List.length_append]; omega
  go_wp2_with fail
  refine (addnats_new [(e.l.length : Int)] HO2.out (by show (l ++ five5).length + 9 * 1 ≤ 900000; omega) 1 rfl _ rfl).mono ?_
  rintro r w3 ⟨v3, rfl, hO, hK⟩
  rw [natw_one] at hO
  have hn1 := natw_len (e.l.length : Int)
  generalize natw (e.l.length : Int) = na at hO HEV hn1
  have HO3 := Lib.hid hO
  have HR3 := Lib.hid (hK.obj _ _ _ _ HR2.out (by decide))
  have HK3 := Lib.hid (HK2.out.then hK)
  have HB3 := Lib.hid (HB2.out.trans hK.below)
  clear hO hK HR2 HO2 HK2 HB2 c5
  have c5 := cell_of_row _ _ 5 _ _ _ HR3.out
  have hlen3 : ((l ++ five5) ++ na).length ≤ 1054 := by rw [List.length_append]; omega
  generalize hq3 : (l ++ five5) ++ na = l3 at HO3 hlen3
  have HL3 := Lib.hid hq3
  clear hq3
  go_wp2_with fail
  go_loopw [0, 31] (fun vv ii wr => ∃ k : Nat, k ≤ e.l.length ∧ ii = .int .i64 (k : Int) ∧ OwnB W0.heap.size wr vv (l3 ++ (e.l.take k).flatMap attb) ∧ Keep W0.heap.size w3 wr ∧ (l3 ++ (e.l.take k).flatMap attb).length ≤ 1054 + 230 * k) (fun _ ii _ => e.l.length - (intOf ii).toNat)
  case atStart => exact ⟨0, by omega, rfl, by simpa using HO3.out, Keep.refl _ _, by simpa using hlen3⟩
  case round =>
    obtain ⟨k, hk, rfl, hO, hK, hL⟩ := hrel
    clear c5
    have HO4 := Lib.hid hO
    have HK4 := Lib.hid hK
    have HL4 := Lib.hid hL
    clear hO hK hL
    by_cases hlt : k < e.l.length
    · obtain ⟨ga, oa, a, hA, ha, hc⟩ := HE.out.l.run (HB3.out.trans HK4.out.below) hlt
      have hsm := HS.out.names a (List.mem_of_getElem? ha)
      have HN := Lib.hid (flat_next (f := attb) ha)
      have hal := attb_len hsm.1 hsm.2
      have HG := Lib.hid hc
      have HSM := Lib.hid hsm
      clear ha hc hsm
      generalize hq4 : l3 ++ (e.l.take k).flatMap attb = l4 at HO4 HL4
      have HL5 := Lib.hid hq4
      have hl4 := HL4.out
      clear hq4
      rw [hA]
      go_upto_region 6 with (first | (refine wpList_load_at rfl 44 _ rfl ga (oa + k * 6) a.cells _ rfl HG.out Try.underlying44 rfl att_size ?_; dsimp only [Att.cells]))
      have hn2 := one_new wr (attbox a)
      have HN2 := Lib.hid (heap_alloc_new wr (attbox a))
      have HO5 := Lib.hid (HO4.out.later hn2)
      have HK5 := Lib.hid (HK4.out.then (Keep.later HO4.out.2 hn2))
      clear hn2 HO4 HK4 HG
      dsimp only [attbox] at HN2 HO5 HK5
      generalize wr.alloc _ = w4 at HN2 HO5 HK5 ⊢
      generalize wr.heap.size = gb at HN2 ⊢
      have q0 := cell_of_row _ _ 0 _ _ _ HN2.out
      go_wp2_with fail
      refine (addtext_any HO5.out HSM.out.1 (by omega)).mono ?_
      rintro r w5 ⟨v5, rfl, hO, hK⟩
      have HO6 := Lib.hid hO
      have HN3 := Lib.hid (hK.obj _ _ _ _ HN2.out (by decide))
      have HK6 := Lib.hid (HK5.out.then hK)
      have hl5 : (l4 ++ textb a.name).length ≤ 100000 := by rw [List.length_append]; have := textb_len HSM.out.1; omega
      clear hO hK q0 HN2 HO5 HK5
      have HV := Lib.hid (cells_part (ds := a.v.cells) (cells_row (cs := a.cells) HN3.out) (Nat.zero_add 1) (fun j v hj => by rw [Nat.add_comm]; exact hj))
      go_wp2_with (first | (refine wpList_load_at rfl 41 _ rfl gb 1 a.v.cells _ rfl HV.out Try.underlying41 rfl val_size ?_; dsimp only [Val.cells]) | fail)
      refine (addvalue_any (a := a.v) HO6.out HSM.out.2 (by omega)).mono ?_
      rintro r w6 ⟨v6, rfl, hO, hK⟩
      have HO7 := Lib.hid hO
      have HK7 := Lib.hid (HK6.out.then hK)
      clear hO hK HO6 HK6 HN3 HV
      have HF : Hid ((l4 ++ textb a.name) ++ valueb a.v = l3 ++ (e.l.take (k + 1)).flatMap attb) := Lib.hid (by rw [HN.out, ← List.append_assoc, HL5.out, attb, List.append_assoc])
      go_wp2_with fail
      refine ⟨⟨k + 1, by omega, rfl, by rw [← HF.out]; exact HO7.out, HK7.out, ?_⟩, by simp [intOf]; omega⟩
      rw [HN.out, ← List.append_assoc, HL5.out, List.length_append]
      omega
    · obtain rfl : k = e.l.length := by omega
      have hO := HO4.out
      have hl4 := HL4.out
      rw [List.take_length] at hO hl4
      generalize hq4 : l3 ++ e.l.flatMap attb = l4 at hO hl4
      have HL5 := Lib.hid hq4
      have HO5 := Lib.hid hO
      have HR5 := Lib.hid (HK4.out.obj _ _ _ _ HR3.out (by decide))
      have HK5 := Lib.hid (HK3.out.then HK4.out)
      have HB5 := Lib.hid (HB3.out.trans HK4.out.below)
      clear hq4 hO HO4 HL4 HK4 HR3 HK3 HB3 HO3
      have c6 := cell_of_row _ _ 6 _ _ _ HR5.out
      go_wp2_with fail
      refine (addnats_new [(e.t.length : Int)] HO5.out (by show l4.length + 9 * 1 ≤ 900000; omega) 1 rfl _ rfl).mono ?_
      rintro r w4 ⟨v4, rfl, hO, hK⟩
      rw [natw_one] at hO
      have hn2 := natw_len (e.t.length : Int)
      generalize natw (e.t.length : Int) = nt at hO HEV hn2
      have HO6 := Lib.hid hO
      have HR6 := Lib.hid (hK.obj _ _ _ _ HR5.out (by decide))
      have HK6 := Lib.hid (HK5.out.then hK)
      have HB6 := Lib.hid (HB5.out.trans hK.below)
      clear hO hK HR5 HO5 HK5 HB5 c6
      have c6 := cell_of_row _ _ 6 _ _ _ HR6.out
      have hlen6 : (l4 ++ nt).length ≤ 24100 := by rw [List.length_append]; omega
      generalize hq6 : l4 ++ nt = l6 at HO6 hlen6
      have HL6 := Lib.hid hq6
      clear hq6
      have HF : Hid (l ++ eventb e = l6 ++ e.t.flatMap stb) := Lib.hid (by rw [HEV.out, ← HL6.out, ← HL5.out, ← HL3.out]; simp only [List.append_assoc])
      clear HEV HL5 HL3 HL6
      go_wp2_with fail
      go_loopw [0, 53] (fun vv ii wr => ∃ k : Nat, k ≤ e.t.length ∧ ii = .int .i64 (k : Int) ∧ OwnB W0.heap.size wr vv (l6 ++ (e.t.take k).flatMap stb) ∧ Keep W0.heap.size w4 wr ∧ (l6 ++ (e.t.take k).flatMap stb).length ≤ 24100 + 18 * k) (fun _ ii _ => e.t.length - (intOf ii).toNat)
      case atStart => exact ⟨0, by omega, rfl, by simpa using HO6.out, Keep.refl _ _, by simpa using hlen6⟩
      case round =>
        obtain ⟨q, hq, rfl, hO, hK, hL⟩ := hrel
        clear c6
        have HO4 := Lib.hid hO
        have HK4 := Lib.hid hK
        have hL4 := hL
        clear hO hK hL
        by_cases hltq : q < e.t.length
        · obtain ⟨ga, oa, a, hA, ha, hc⟩ := HE.out.t.cells (HB6.out.trans HK4.out.below) hltq
          have HN := Lib.hid (flat_next (f := stb) ha)
          have HG := Lib.hid hc
          clear ha hc
          generalize hq4 : l6 ++ (e.t.take q).flatMap stb = l7 at HO4 hL4
          have HL5 := Lib.hid hq4
          clear hq4
          rw [hA]
          go_upto_region 13 with (first | (refine wpList_load_at rfl 46 _ rfl ga (oa + q * 2) a.cells _ rfl HG.out Try.underlying46 rfl st_size ?_; dsimp only [St.cells]))
          have hn2 := one_new wr (stbox a)
          have HN2 := Lib.hid (heap_alloc_new wr (stbox a))
          have HO5 := Lib.hid (HO4.out.later hn2)
          have HK5 := Lib.hid (HK4.out.then (Keep.later HO4.out.2 hn2))
          clear hn2 HO4 HK4 HG
          dsimp only [stbox] at HN2 HO5 HK5
          generalize wr.alloc _ = w5 at HN2 HO5 HK5 ⊢
          generalize wr.heap.size = gb at HN2 ⊢
          have q0 := cell_of_row _ _ 0 _ _ _ HN2.out
          have q1 := cell_of_row _ _ 1 _ _ _ HN2.out
          go_wp2_with fail
          refine (addnats_new [a.atom, a.n] HO5.out (by show l7.length + 9 * 2 ≤ 900000; omega) 2 rfl _ rfl).mono ?_
          rintro r w6 ⟨v6, rfl, hO, hK⟩
          have HO7 := Lib.hid hO
          have HK7 := Lib.hid (HK5.out.then hK)
          have e2 : [a.atom, a.n].flatMap natw = stb a := by simp [stb]
          have hsl : (stb a).length ≤ 18 := by rw [← e2]; exact natws_len [a.atom, a.n]
          rw [e2] at HO7
          clear hO hK q0 q1 HN2 HO5 HK5 e2
          go_wp2_with fail
          refine ⟨⟨q + 1, by omega, rfl, by rw [HN.out, ← List.append_assoc, HL5.out]; exact HO7.out, HK7.out, ?_⟩, by simp [intOf]; omega⟩
          rw [HN.out, ← List.append_assoc, HL5.out, List.length_append]
          omega
        · obtain rfl : q = e.t.length := by omega
          have hO := HO4.out
          rw [List.take_length] at hO
          have HO5 := Lib.hid hO
          have HK5 := Lib.hid (HK6.out.then HK4.out)
          clear hO HO4
          go_wp2_with fail
          go_ret
          exact ⟨_, rfl, by rw [HF.out]; exact HO5.out, HK5.out⟩
end Go.Proofs.Ytgenmebmdpnjhaa
