/- TrapPlays: the walk. -/
import Derived.Test.YtbfgpbjckkhljaaThrown
import Derived.Deep.RegionWith
namespace Go.Proofs.Ytbfgpbjckkhljaa
open Go.RowKit

/-- The two levels' contracts, given each at one level over the next. -/
theorem want_all (g : Arg) : ∀ d : Nat, d ≤ 5 → WantC g (lvl g.f (min g.len 50) d) (5 - d)
  | 0, _ => want_lvl g none 5 (.inl ⟨rfl, rfl⟩)
  | d + 1, h => by
    have hw := want_all g d (by omega)
    have e : ((5 : Int) - ((d + 1 : Nat) : Int)) + 1 = 5 - (d : Int) := by omega
    exact want_lvl g (some (lvl g.f (min g.len 50) d)) _ (.inr ⟨_, rfl, by omega, by omega, lvl_good g.f_ok d, by rw [e]; exact hw⟩)

theorem f20 (g : Arg) (s : Nat → List Int → Res) (hC : RunC g s 0) (A base b : Nat) (v : Value) (a : Nat) (log : List Int) (W : World) (h : PL g A base v a log W) (ha : a ≤ min g.len 50) (hl : log.length ≤ a)
    (h2 : W.cell? ⟨b, 0, none⟩ = some (.pointer (some ⟨A, 0, none⟩))) :
    Calls Try.prog 20 #[.pointer (some ⟨b, 0, none⟩)] W fun e W' => Ends (outOf (s a log).2.2) e ∧ ∃ v', PL g A base v' (s a log).1 (s a log).2.1 W' ∧ Went A v v' W W' := by
  have hR := hC A base v a log W h ha hl
  clear hC h ha hl
  go_enter Try.func20, Try.ntmps20
  go_wp2_with fail
  refine hR.mono ?_
  rintro e w' ⟨he, hP⟩
  have HP := Lib.hid hP
  clear hR hP
  have HE := Lib.hid he
  cases ho : outOf (s a log).2.2 with
  | ok =>
    rw [ho] at he
    obtain ⟨v1, rfl⟩ := he
    have HO := Lib.hid ho
    clear ho
    go_wp2
    go_end0
    exact ⟨by rw [HO.out]; exact ⟨_, rfl⟩, HP.out⟩
  | err n =>
    rw [ho] at he
    obtain ⟨c, rfl, hc⟩ := he
    exact ⟨rfl, HE.out, HP.out⟩
  | other u x =>
    rw [ho] at he
    obtain ⟨hu, c, rfl, hc⟩ := he
    exact ⟨rfl, HE.out, HP.out⟩

/-- thrown of a player's run. -/
theorem thrown_run (g : Arg) (s : Nat → List Int → Res) (hs : GoodSub (min g.len 50) s) (hC : RunC g s 0) (A base b : Nat) (v : Value) (a : Nat) (log : List Int) (w : World) (h : PL g A base v a log w) (ha : a ≤ min g.len 50) (hl : log.length ≤ a)
    (h2 : w.cell? ⟨b, 0, none⟩ = some (.pointer (some ⟨A, 0, none⟩))) :
    Calls Try.prog 19 #[.func (.func 20) #[] #[.pointer (some ⟨b, 0, none⟩)]] w fun e w' => e = .returned (.int .i64 (s a log).2.2) ∧ ∃ v', PL g A base v' (s a log).1 (s a log).2.1 w' ∧ Went A v v' w w' := by
  have hA : A < w.heap.size := World.block_lt_of_cell? w _ h.ix
  have hvb : ∀ k, v.ownBlock = some k → k < w.heap.size := fun k e => (h.own.lt k e).2
  have hgb : g.b < w.heap.size := Nat.lt_of_lt_of_le h.bB h.baseW
  have hsz : (thrownWorld w).heap.size = w.heap.size + 1 := by simp [thrownWorld]
  have h2' : (thrownWorld w).cell? ⟨b, 0, none⟩ = some (.pointer (some ⟨A, 0, none⟩)) := (World.cell?_alloc_lt w _ ⟨b, 0, none⟩ (World.block_lt_of_cell? w _ h2)).trans h2
  have hP : PL g A base v a log (thrownWorld w) := h.alloc _
  refine (thrown_of 20 _ w (s a log).2.2 (hs a log ha).out (fun w1 => ∃ v', PL g A base v' (s a log).1 (s a log).2.1 w1 ∧ Went A v v' (thrownWorld w) w1) (fun _ => by kernel_rfl) ?_).mono ?_
  · refine (f20 g s hC A base b v a log _ hP ha hl h2').mono ?_
    rintro e w1 ⟨he, v', hP1, hW1⟩
    refine ⟨he, ⟨v', hP1, hW1⟩, hW1.kept.block _ (by omega) ?_⟩
    rintro (e | e)
    · omega
    · have := hvb _ e; omega
  · rintro e w' ⟨he, w1, ⟨v', hP1, hW1⟩, hk⟩
    have hv' : v'.ownBlock ≠ some w.heap.size := by
      intro e
      rcases hW1.own with o | ⟨k, o, ok⟩
      · rw [o] at e; have := hvb _ e; omega
      · rw [o] at e; cases e; omega
    refine ⟨he, v', hP1.apart hk (by omega) hv' (by omega), ?_⟩
    have k0 : Went A v v w (thrownWorld w) := Went.of_kept (Kept.alloc _ w _)
    have k1 := k0.trans hW1
    refine ⟨k1.kept.trans hk (fun i hi e => by omega), k1.own⟩

/-- What TrapPlays lays: the first player, the variable that points to it, the second player. -/
def plw (g : Arg) (w : World) : World :=
  ((w.alloc (Obj.cells #[Value.slice g.ao g.len g.cap, Value.int IntKind.i64 0, Value.slice none 0 0] 33)).alloc (Obj.cells #[Value.pointer (some { block := w.heap.size, off := 0 })] 30)).alloc
    (Obj.cells #[Value.slice g.ao g.len g.cap, Value.int IntKind.i64 0, Value.slice none 0 0] 33)

theorem plw_size (g : Arg) (w : World) : (plw g w).heap.size = w.heap.size + 3 := by simp [plw]

theorem plw_below (g : Arg) (w : World) : Below w.heap.size w (plw g w) := by
  unfold plw
  refine (((Below.refl _ _).alloc ?_ _).alloc ?_ _).alloc ?_ _ <;> simp <;> omega

structure ArgAt (g : Arg) (w : World) : Prop where
  nb : g.b ≠ w.heap.size ∧ g.b < w.heap.size + 2
  lies : 0 < g.len → g.ao = some ⟨g.b, g.off, none⟩
  arg : ∀ i, i < g.len → w.cell? ⟨g.b, g.off + i * 2, none⟩ = some (.int .i64 (g.z i).1) ∧ w.cell? ⟨g.b, g.off + i * 2 + 1, none⟩ = some (.int .i64 (g.z i).2)

theorem plw_arg {g : Arg} {w : World} (h : ArgAt g w) : ∀ i, i < g.len → (plw g w).cell? ⟨g.b, g.off + i * 2, none⟩ = some (.int .i64 (g.z i).1) ∧ (plw g w).cell? ⟨g.b, g.off + i * 2 + 1, none⟩ = some (.int .i64 (g.z i).2) := by
  intro i hi
  obtain ⟨p, q⟩ := h.arg i hi
  have hb := plw_below g w
  exact ⟨(hb.cell (World.block_lt_of_cell? w _ p)).trans p, (hb.cell (World.block_lt_of_cell? w _ q)).trans q⟩

theorem plw_one {g : Arg} {w : World} (h : ArgAt g w) : PL g w.heap.size (w.heap.size + 3) (.slice none 0 0) 0 [] (plw g w) := by
  have := h.nb
  refine ⟨by simp [plw, go_sem], by simp [plw, go_sem], by simp [plw, go_sem], World.ownsRow_nil _ _ _ _, fun i => by simp [plw, go_sem], by simp [Value.ownBlock], this.1, by omega, by rw [plw_size]; omega, h.lies, plw_arg h⟩

theorem plw_two {g : Arg} {w : World} (h : ArgAt g w) : PL g (w.heap.size + 2) (w.heap.size + 3) (.slice none 0 0) 0 [] (plw g w) := by
  have := h.nb
  refine ⟨by simp [plw, go_sem], by simp [plw, go_sem], by simp [plw, go_sem], World.ownsRow_nil _ _ _ _, fun i => by simp [plw, go_sem], by simp [Value.ownBlock], by omega, by omega, by rw [plw_size]; omega, h.lies, plw_arg h⟩

theorem plw_var (g : Arg) (w : World) : (plw g w).cell? ⟨w.heap.size + 1, 0, none⟩ = some (.pointer (some ⟨w.heap.size, 0, none⟩)) := by simp [plw, go_sem]

/-- One player's call leaves another player alone. -/
theorem PL.other {g : Arg} {A A' base : Nat} {v v1 u : Value} {a : Nat} {log : List Int} {W W' : World} (h : PL g A base v a log W) (hW : Went A' u v1 W W') (hA : A ≠ A') (hu : u.ownBlock ≠ some A) (hv : v.ownBlock = none ∨ (v.ownBlock ≠ some A' ∧ v.ownBlock ≠ u.ownBlock)) (hb : g.b ≠ A') (hbu : u.ownBlock ≠ some g.b) : PL g A base v a log W' := by
  have hAl : A < W.heap.size := World.block_lt_of_cell? W _ h.ix
  have e : W'.heap[A]? = W.heap[A]? := hW.kept.block A hAl (fun e => e.elim hA hu)
  have hown : W'.ownsRow base 3 1 v log.length (log.map (Value.int .i64)) := by
    obtain ⟨o1, o2⟩ := h.own
    refine ⟨o1, ?_⟩
    rcases o2 with o2 | ⟨k, cap, cur, rfl, hk, hh, r⟩
    · exact .inl o2
    · refine .inr ⟨k, cap, cur, rfl, hk, ?_, r⟩
      have hkl := (h.own.lt k rfl).2
      rw [hW.kept.block k hkl ?_]
      · exact hh
      · rcases hv with hv | ⟨hv1, hv2⟩
        · simp [Value.ownBlock] at hv
        · rintro (e | e)
          · exact hv1 (by rw [← e]; rfl)
          · exact hv2 e.symm
  refine ⟨(World.cell?_of_block (a := ⟨A, 0, none⟩) e).trans h.l, (World.cell?_of_block (a := ⟨A, 1, none⟩) e).trans h.ix, (World.cell?_of_block (a := ⟨A, 2, none⟩) e).trans h.lg, hown,
    fun i => (World.frozen?_of_block (a := ⟨A, i, none⟩) e).trans (h.fz i), h.nA, h.bA, h.bB, Nat.le_trans h.baseW hW.kept.size, h.lies, ?_⟩
  intro i hi
  obtain ⟨p, q⟩ := h.arg i hi
  exact ⟨hW.cell p hb hbu, hW.cell q hb hbu⟩

/-- What is read of a player's marks. -/
theorem PL.reads {g : Arg} {A base : Nat} {v : Value} {a : Nat} {log : List Int} {W : World} (h : PL g A base v a log W) : ∃ (ao : Option Addr) (cap : Nat), v = .slice ao log.length cap ∧ ∀ i, i < log.length → ∃ k, ao = some ⟨k, 0, none⟩ ∧ W.cell? ⟨k, i, none⟩ = some (.int .i64 (log.getD i 0)) := by
  have ho := h.own
  rcases h.own with ⟨hl, ⟨rfl, hn⟩ | ⟨k, cap, cur, rfl, hk, hh, r⟩⟩
  · exact ⟨none, 0, by rw [hn], fun i hi => by omega⟩
  · refine ⟨_, cap, rfl, fun i hi => ⟨k, rfl, ?_⟩⟩
    have := ho.cells (g := k) rfl i (.int .i64 (log.getD i 0)) (by rw [List.getElem?_map, List.getElem?_eq_getElem hi]; simp [List.getD, List.getElem?_eq_getElem hi])
    have e : (⟨k, 0, none⟩ : Addr).add i = ⟨k, i, none⟩ := by simp only [Addr.add]; split <;> simp_all
    rw [e] at this
    exact this

set_option maxRecDepth 100000 in
set_option maxHeartbeats 8000000 in
theorem plays_any (g : Arg) (hRun : RunC g (lvl g.f (min g.len 50) 5) 0) (w : World) (hg : ArgAt g w) :
    Calls Try.prog 4 #[.slice g.ao g.len g.cap] w fun e w' => e = .returned (.bool true) ∧ Below w.heap.size w w' := by
  have hmf : ∀ (fn : Fn) (first cap : Array Value) (w : World), (Instr.makeFunc fn first cap).run Try.prog w = .ok (.func fn first cap) w := fun _ _ _ _ => rfl
  have T := thrown_run g _ (lvl_good g.f_ok 5) hRun w.heap.size (w.heap.size + 3) (w.heap.size + 1) _ 0 [] (plw g w) (plw_one hg) (by omega) (by simp) (plw_var g w)
  have Wn := want_all g 5 (by omega)
  have hG := lvl_good (n := min g.len 50) g.f_ok 5 0 [] (by omega)
  obtain ⟨r, hr⟩ : ∃ r, lvl g.f (min g.len 50) 5 0 [] = r := ⟨_, rfl⟩
  rw [hr] at T hG
  have p1 := plw_two hg
  have bw := plw_below g w
  have sw := plw_size g w
  have pv := plw_var g w
  have hnb := hg.nb
  have rl := hG.len
  have rle := hG.le
  obtain ⟨o, ho⟩ : ∃ o, r.2.2 = o := ⟨_, rfl⟩
  obtain ⟨L, hL⟩ : ∃ L, r.2.1 = L := ⟨_, rfl⟩
  rw [ho, hL] at T
  rw [hL] at rl
  have hL50 : L.length ≤ 50 := by simp at rl; omega
  have HR := Lib.hid hr
  have HO := Lib.hid ho
  have HL := Lib.hid hL
  have HW := Lib.hid Wn
  clear hr ho hL Wn hRun hG rl rle
  go_enter Try.func4, Try.ntmps4
  go_wp2_with fail
  refine Calls.mono T ?_
  clear T
  rintro e w1 ⟨rfl, va, hPa, hWa⟩
  have hPb : PL g (w.heap.size + 2) (w.heap.size + 3) (.slice none 0 0) 0 [] w1 := p1.other hWa (by omega) (by simp [Value.ownBlock]) (.inl rfl) hnb.1 (by simp [Value.ownBlock])
  have hvar : w1.cell? ⟨w.heap.size + 1, 0, none⟩ = some (.pointer (some ⟨w.heap.size, 0, none⟩)) := hWa.cell pv (by simp) (by simp [Value.ownBlock])
  have Cb := HW.out (w.heap.size + 2) (w.heap.size + 3) _ 0 [] w1 hPb (by omega) (by simp)
  rw [HR.out, HO.out, HL.out] at Cb
  have hva : ∀ k, va.ownBlock = some k → w.heap.size + 3 ≤ k := fun k e => (hPa.own.lt k e).1
  clear HW
  go_wp2_with fail
  refine Calls.mono Cb ?_
  clear Cb
  rintro e w2 ⟨rfl, vb, hPb2, hWb⟩
  have hPa2 : PL g w.heap.size (w.heap.size + 3) va r.1 L w2 := by
    refine hPa.other hWb (by omega) (by simp [Value.ownBlock]) ?_ (by omega) (by simp [Value.ownBlock])
    cases hk : va.ownBlock with
    | none => exact .inl rfl
    | some k => exact .inr ⟨fun e => by cases e; have := hva _ hk; omega, by simp [Value.ownBlock]⟩
  have c1 : w2.cell? ⟨w.heap.size + 1, 0, none⟩ = some (.pointer (some ⟨w.heap.size, 0, none⟩)) := hWb.cell hvar (by simp) (by simp [Value.ownBlock])
  have hs1 : w.heap.size + 3 ≤ w1.heap.size := by have := hWa.kept.size; omega
  have hB : Below w.heap.size w w2 := by
    refine (bw.trans (hWa.kept.below (by omega) ?_)).trans (hWb.kept.below (by omega) ?_)
    · rintro k hk (e | e)
      · omega
      · simp [Value.ownBlock] at e
    · rintro k hk (e | e)
      · omega
      · simp [Value.ownBlock] at e
  have c2 := hPa2.lg
  have c3 : w2.cell? ⟨w.heap.size + 1 + 1, 2, none⟩ = some vb := hPb2.lg
  obtain ⟨aoa, capa, rfl, ra⟩ := hPa2.reads
  obtain ⟨aob, capb, rfl, rb⟩ := hPb2.reads
  have hs2 : w.heap.size + 3 ≤ w2.heap.size := by have := hWb.kept.size; omega
  have RA := Lib.hid ra
  have RB := Lib.hid rb
  clear hPa hWa hPb hvar hva hPb2 hWb hPa2 p1 bw sw pv hnb hg HR HO HL ra rb
  go_wp2_with fail
  go_region_held3 (fun w' => w'.cell? ⟨w.heap.size + 1, 0, none⟩ = some (.pointer (some ⟨w.heap.size, 0, none⟩)) ∧ w'.cell? ⟨w.heap.size, 2, none⟩ = some (.slice aoa L.length capa) ∧ w'.cell? ⟨w.heap.size + 1 + 1, 2, none⟩ = some (.slice aob L.length capb))
    (first
      | go_keep
      | (go_split_ands
         refine ⟨?_, ?_, ?_⟩
         · (rw [hb3.cell (by simp; omega)]; assumption)
         · (rw [hb3.cell (by simp; omega)]; assumption)
         · (rw [hb3.cell (by simp; omega)]; assumption)))
    (first | (go_at_call 23; refine (known_any _).mono ?_; rintro e w3 ⟨rfl, hb3⟩))
  go_wp2_with fail
  have hb4 : Below w2.heap.size w2 w3 := ⟨hb3.os, hb3.tape, hb3.output, hb3.size, hb3.block⟩
  go_loopw [7] (fun i wr => ∃ k : Nat, k ≤ L.length ∧ i = .int .i64 k ∧ Below w2.heap.size w2 wr) (fun i _ => L.length - (intOf i).toNat)
  case atStart => exact ⟨0, by omega, rfl, hb4⟩
  case round =>
    obtain ⟨k, hk, rfl, hbr⟩ := hrel
    have d1 : wr.cell? ⟨w.heap.size + 1, 0, none⟩ = some (.pointer (some ⟨w.heap.size, 0, none⟩)) := (hbr.cell (World.block_lt_of_cell? w2 _ c1)).trans c1
    have d2 : wr.cell? ⟨w.heap.size, 2, none⟩ = some (.slice aoa L.length capa) := (hbr.cell (World.block_lt_of_cell? w2 _ c2)).trans c2
    have d3 : wr.cell? ⟨w.heap.size + 1 + 1, 2, none⟩ = some (.slice aob L.length capb) := (hbr.cell (World.block_lt_of_cell? w2 _ c3)).trans c3
    by_cases hlt : k < L.length
    · obtain ⟨ka, rfl, qa⟩ := RA.out k hlt
      obtain ⟨kb, rfl, qb⟩ := RB.out k hlt
      obtain ⟨z, hz⟩ : ∃ z, z = L.getD k 0 := ⟨_, rfl⟩
      rw [← hz] at qa qb
      have d4 : wr.cell? ⟨ka, k, none⟩ = some (.int .i64 z) := (hbr.cell (World.block_lt_of_cell? w2 _ qa)).trans qa
      have d5 : wr.cell? ⟨kb, k, none⟩ = some (.int .i64 z) := (hbr.cell (World.block_lt_of_cell? w2 _ qb)).trans qb
      clear RA RB c1 c2 c3 qa qb hz hb3 hb4
      go_wp2_with fail
      go_quiet (fail)
      go_wp2_with fail
      exact ⟨⟨k + 1, by omega, by go_num, below_drewN hbr nq⟩, by simp [intOf]; omega⟩
    · clear RA RB c1 c2 c3 hb3 hb4
      go_wp2_with fail
      go_ret
      exact ⟨rfl, hB.trans (hbr.mono (by omega))⟩

end Go.Proofs.Ytbfgpbjckkhljaa
