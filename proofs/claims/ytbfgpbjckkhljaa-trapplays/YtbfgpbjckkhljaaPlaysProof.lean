/- TrapPlays is proved for every slice of steps: the call returns true, the slice reads behind it as it read before. No condition. -/
import Derived.Test.YtbfgpbjckkhljaaRows
import Derived.Test.YtbfgpbjckkhljaaRun
import Derived.Test.YtbfgpbjckkhljaaPlays
import Derived.Deep.SlicePairs
import Derived.WalkKit
import Derived.ProofKit
import Derived.OpenShut
import Derived.ShutString
import Derived.ChangeOld
import Derived.Below
namespace Go.Proofs.Ytbfgpbjckkhljaa.trapPlays
open Go.ChangeShapes Go.WideShapes Go.ChangeAt Go.RowKit
open Go.ChangeMaps (open_string shut_string)
set_option linter.unusedVariables false

theorem own : ownKnob Try.prog.godebug = none := by kernel_rfl
theorem laidOut : laidOutB Try.prog = true := by kernel_rfl

theorem run_all (g : Arg) : ∀ d : Nat, d ≤ 5 → RunC g (lvl g.f (min g.len 50) d) (5 - d)
  | 0, _ => run_lvl g none 5 (.inl ⟨rfl, rfl⟩)
  | d + 1, h => by
    have hw := run_all g d (by omega)
    have e : ((5 : Int) - ((d + 1 : Nat) : Int)) + 1 = 5 - (d : Int) := by omega
    exact run_lvl g (some (lvl g.f (min g.len 50) d)) _ (.inr ⟨_, rfl, by omega, by omega, lvl_good g.f_ok d, by rw [e]; exact hw⟩)

/-- A slice of steps that came in: nil, or a row of pairs. -/
def IsSteps (w : World) (a : Option Addr) (len : Nat) : Prop :=
  (a = none ∧ len = 0) ∨ ∃ (x : Addr) (z : Nat → Int × Int), a = some x ∧ ∀ i, i < len → w.cell? (x.add (i * 2)) = some (.int .i64 (z i).1) ∧ w.cell? (x.add (i * 2 + 1)) = some (.int .i64 (z i).2)

theorem walk (a0 : Option Addr) (len0 cap0 : Nat) (w : World) (w0 : IsSteps w a0 len0) :
    Calls Try.prog 4 #[.slice a0 len0 cap0] w fun e w' => e = .returned (.bool true) ∧ Below w.heap.size w w' := by
  by_cases h0 : len0 = 0
  · subst h0
    exact plays_any ⟨a0, w.heap.size + 1, 0, 0, cap0, fun _ => (0, 0)⟩ (run_all _ 5 (by omega)) w ⟨⟨by simp, by simp⟩, fun h => by simp at h, fun i hi => by simp at hi⟩
  · rcases w0 with ⟨_, h⟩ | ⟨x, z, rfl, hx⟩
    · exact absurd h h0
    · obtain ⟨b, off, spot⟩ := x
      have hspot : spot = none := by simpa [Addr.add] using World.cell?_spot (hx 0 (by omega)).1
      subst hspot
      have hx' : ∀ i, i < len0 → w.cell? ⟨b, off + i * 2, none⟩ = some (.int .i64 (z i).1) ∧ w.cell? ⟨b, off + i * 2 + 1, none⟩ = some (.int .i64 (z i).2) := by
        intro i hi
        have h := hx i hi
        rw [Go.WideShapes.add_plain, Go.WideShapes.add_plain] at h
        exact h
      have hb : b < w.heap.size := World.block_lt_of_cell? w _ (hx' 0 (by omega)).1
      exact plays_any ⟨some ⟨b, off, none⟩, b, off, len0, cap0, z⟩ (run_all _ 5 (by omega)) w ⟨⟨by simp; omega, by simp; omega⟩, fun _ => rfl, hx'⟩

/-! ### THE ROW's STEP: WRITTEN OUT: LEAVE IT -/
set_option maxRecDepth 100000 in
theorem lifted (os : Os) (started : os.Started) (H : Type) (enc : TypeId × Value → H) :
    ReturnsInHanded {} Try.checked os 4 .any (Rows.trapPlaysSpec.pre6 enc Try.prog Try.f4 Rows.trapPlaysRow.domain false) (Rows.trapPlaysSpec.post enc Try.prog Try.f4 false true false false) := by
  refine returnsInHanded_of_change (C := Try.checked) own started (by kernel_rfl) Try.func4
    (ChangeSpec.witness6 (enc := enc) (C := Try.checked) false ⟨#[], #[.slice none 0 0], []⟩ 8 (by kernel_rfl) (by kernel_rfl) (by kernel_rfl) (by kernel_rfl)) ?_
  intro W base args ds gs before hval0 hW hcnd _
  have hval : ∀ (j : Nat) t v, Try.f4.params[j]? = some t → args[j]? = some v → Value.okWide Try.prog W .any base t v := hval0
  have hW' := hW
  obtain ⟨p, q, hA0, hV, rfl, hfz, hnd⟩ := hW
  have hA : DataW.TrodAll enc Try.prog W 0 (fun _ => true) true Try.f4.params.toList args.toList ds p := hA0
  rw [Try.params4] at hA hval
  obtain ⟨v0, vs0, d0, ds0, p0, q0, hargs, rfl, rfl, h0, r0⟩ := trodAll_cons hA
  obtain ⟨rfl, rfl, rfl⟩ := trodAll_nil r0
  obtain rfl : args = #[v0] := by cases args; simp_all
  obtain ⟨rfl, rfl⟩ := trodVars_none hV
  obtain ⟨a0, len0, cap0, rfl⟩ := okWide_slice Try.underlying29 (hval 0 29 v0 rfl rfl)
  have k0 := h0
  have lt0 : ∀ x ∈ p0, x.block < W.heap.size := by obtain ⟨m, hm⟩ := k0; exact DataW.trod_lt m _ _ _ hm
  have w0 : IsSteps W a0 len0 := by
    obtain ⟨fuel, hf⟩ := h0
    rcases Go.Deep.open_slice_pairs Try.underlying29 Try.underlying45 (by kernel_rfl) rfl rfl (by kernel_rfl) (by kernel_rfl) hf with ⟨hcs, _⟩ | ⟨x, l, c, m, n, V0, V1, D0, D1, P0, P1, hcs, _, hl, _, hm, _, hel⟩
    · simp [Value.cells] at hcs
      exact .inl ⟨hcs.1, hcs.2.1⟩
    · simp [Value.cells] at hcs
      obtain ⟨rfl, rfl, rfl⟩ := hcs
      have hm' : len0 ≤ m := by rw [hm]; split <;> omega
      have hints : ∀ i, i < len0 → ∃ z : Int × Int, W.cell? (x.add (i * 2)) = some (.int .i64 z.1) ∧ W.cell? (x.add (i * 2 + 1)) = some (.int .i64 z.2) := by
        intro i hi
        obtain ⟨p, q, s, t⟩ := hel i (by omega)
        obtain ⟨z1, e1, _⟩ := DataW.trod_int Try.underlying3 s
        obtain ⟨z2, e2, _⟩ := DataW.trod_int Try.underlying3 t
        simp at e1 e2
        exact ⟨(z1, z2), by rw [p, e1], by rw [q, e2]⟩
      refine .inr ⟨x, fun i => if h : i < len0 then (hints i h).choose else (0, 0), rfl, fun i hi => ?_⟩
      simp only [dif_pos hi]
      exact (hints i hi).choose_spec
  clear hA0 hval0
  refine (walk a0 len0 cap0 W w0).mono fun e W' ⟨he, bel⟩ => ?_
  subst he
  exact ⟨_, rfl, _, _, _, [], _, [], hW', trodAll_mk1 (shut_bool Try.underlying4 _), (trodAll_cons_mk (Below.trod laidOut (by kernel_rfl) (of_decide_eq_true (by kernel_rfl)) k0 bel lt0) trodAll_mk0), rfl, bel.frame _, fun h => by cases h⟩

theorem over : Rows.trapPlaysRow.holds Try.pinned (OpenSpec.ofChange Rows.trapPlaysSpec) :=
  OpenClaim.holds_of_wide 4 Try.f4 rfl rfl rfl rfl rfl rfl rfl ⟨rfl, rfl, rfl, rfl, rfl⟩ rfl rfl rfl rfl rfl (by kernel_rfl) Try.func4 (by kernel_rfl)
    (of_decide_eq_true (by kernel_rfl)) (by unfold Func.isWrapper; first | (rw [if_pos (by decide +kernel)]; kernel_rfl) | (rw [if_neg (by decide +kernel)]; exact ⟨rfl, rfl⟩))
    (fun os started H enc _ => lifted os started H enc)

/-- ████ THE STATEMENT ████ -/
theorem proved : Rows.TrapPlaysSaid := over
#print axioms proved
end Go.Proofs.Ytbfgpbjckkhljaa.trapPlays
