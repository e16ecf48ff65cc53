
/- Arrays of six and of five whole numbers, Stamps: compared. -/
import Derived.Test.YtgenmebmdpnjhaaGreatChecked
import Derived.WalkKit
import Derived.Laws.StructEq
import Derived.ChangeKeysEq
namespace Go.Proofs.YtgenmebmdpnjhaaGreat
open Go.RowKit
set_option linter.unusedVariables false
set_option maxRecDepth 100000

theorem ints_go {w : World} (d : Nat) (xs ys : Array Value) : ∀ (l : List Nat) (f g : Nat → Int), (∀ i, i ∈ l → xs[i]? = some (.int .i64 (f i)) ∧ ys[i]? = some (.int .i64 (g i))) →
    (forIn l ((none, PUnit.unit) : Option Bool × PUnit) (fun i r => do
        let a ← part 3 xs (i * 1)
        let b ← part 3 ys (i * 1)
        let q ← Op.equalIn (d + 1) 3 a b
        if (!q) = true then pure (ForInStep.done (some false, PUnit.unit)) else pure (ForInStep.yield (none, PUnit.unit)) : Nat → Option Bool × PUnit → Sem (ForInStep (Option Bool × PUnit)))).run Tryz.prog w
     = .ok (if l.all (fun i => f i == g i) then (none, PUnit.unit) else (some false, PUnit.unit)) w
  | [], f, g, h => by simp
  | i :: l, f, g, h => by
    obtain ⟨h1, h2⟩ := h i (by simp)
    have ih := ints_go (w := w) d xs ys l f g (fun j hj => h j (by simp [hj]))
    have e1 := run_part_plain (P := Tryz.prog) w (e := 3) (by kernel_rfl) (off := i) h1
    have e2 := run_part_plain (P := Tryz.prog) w (e := 3) (by kernel_rfl) (off := i) h2
    rw [List.forIn_cons]
    simp only [Nat.mul_one] at ih ⊢
    simp only [Sem.run_bind, e1, e2, Result.andThen_ok, run_equalIn_int w d 3 .i64 .i64 (f i) (g i) Tryz.underlying3]
    cases hq : (f i == g i)
    · simp [hq]
    · simp only [Bool.not_true, Bool.false_eq_true, if_false, Sem.run_pure, Result.andThen_ok, List.all_cons, hq, Bool.true_and]
      exact ih
theorem eq_six (a0 a1 a2 a3 a4 a5 b0 b1 b2 b3 b4 b5 : Int) (w : World) : (binOp .eql 60 (.agg #[.int .i64 a0, .int .i64 a1, .int .i64 a2, .int .i64 a3, .int .i64 a4, .int .i64 a5]) (.agg #[.int .i64 b0, .int .i64 b1, .int .i64 b2, .int .i64 b3, .int .i64 b4, .int .i64 b5])).run Tryz.prog w = .ok (.bool ((a0 == b0) && ((a1 == b1) && ((a2 == b2) && ((a3 == b3) && ((a4 == b4) && (a5 == b5))))))) w := by
  have hs : (sizeOf 3).run Tryz.prog w = .ok 1 w := by kernel_rfl
  have h := ints_go (w := w) 9998 #[.int .i64 a0, .int .i64 a1, .int .i64 a2, .int .i64 a3, .int .i64 a4, .int .i64 a5] #[.int .i64 b0, .int .i64 b1, .int .i64 b2, .int .i64 b3, .int .i64 b4, .int .i64 b5] [0, 1, 2, 3, 4, 5] (fun i => [a0, a1, a2, a3, a4, a5].getD i 0) (fun i => [b0, b1, b2, b3, b4, b5].getD i 0) (by
    intro i hi
    simp only [List.mem_cons, List.not_mem_nil, or_false] at hi
    rcases hi with rfl | rfl | rfl | rfl | rfl | rfl <;> exact ⟨rfl, rfl⟩)
  have hl : List.range' 0 (Std.Legacy.Range.size [:6]) = [0, 1, 2, 3, 4, 5] := by decide
  show ((do pure (Value.bool (← Op.equal 60 _ _)) : Sem Value)).run Tryz.prog w = _
  unfold Op.equal Op.maxDepth Op.equalIn
  simp only [Sem.run_bind, run_underlying Tryz.underlying60, Result.andThen_ok, hs, Std.Legacy.Range.forIn_eq_forIn_range', hl]
  erw [h]
  simp only [List.all_cons, List.all_nil, Bool.and_true]
  generalize hb : ((a0 == b0) && ((a1 == b1) && ((a2 == b2) && ((a3 == b3) && ((a4 == b4) && (a5 == b5)))))) = b
  have hb' : ((([a0, a1, a2, a3, a4, a5].getD 0 0 == [b0, b1, b2, b3, b4, b5].getD 0 0) && (([a0, a1, a2, a3, a4, a5].getD 1 0 == [b0, b1, b2, b3, b4, b5].getD 1 0) && (([a0, a1, a2, a3, a4, a5].getD 2 0 == [b0, b1, b2, b3, b4, b5].getD 2 0) && (([a0, a1, a2, a3, a4, a5].getD 3 0 == [b0, b1, b2, b3, b4, b5].getD 3 0) && (([a0, a1, a2, a3, a4, a5].getD 4 0 == [b0, b1, b2, b3, b4, b5].getD 4 0) && ([a0, a1, a2, a3, a4, a5].getD 5 0 == [b0, b1, b2, b3, b4, b5].getD 5 0))))))) = b := hb
  rw [hb']
  cases b <;> rfl
theorem eq_five (a0 a1 a2 a3 a4 b0 b1 b2 b3 b4 : Int) (w : World) : (binOp .eql 108 (.agg #[.int .i64 a0, .int .i64 a1, .int .i64 a2, .int .i64 a3, .int .i64 a4]) (.agg #[.int .i64 b0, .int .i64 b1, .int .i64 b2, .int .i64 b3, .int .i64 b4])).run Tryz.prog w = .ok (.bool ((a0 == b0) && ((a1 == b1) && ((a2 == b2) && ((a3 == b3) && (a4 == b4)))))) w := by
  have hs : (sizeOf 3).run Tryz.prog w = .ok 1 w := by kernel_rfl
  have h := ints_go (w := w) 9998 #[.int .i64 a0, .int .i64 a1, .int .i64 a2, .int .i64 a3, .int .i64 a4] #[.int .i64 b0, .int .i64 b1, .int .i64 b2, .int .i64 b3, .int .i64 b4] [0, 1, 2, 3, 4] (fun i => [a0, a1, a2, a3, a4].getD i 0) (fun i => [b0, b1, b2, b3, b4].getD i 0) (by
    intro i hi
    simp only [List.mem_cons, List.not_mem_nil, or_false] at hi
    rcases hi with rfl | rfl | rfl | rfl | rfl <;> exact ⟨rfl, rfl⟩)
  have hl : List.range' 0 (Std.Legacy.Range.size [:5]) = [0, 1, 2, 3, 4] := by decide
  show ((do pure (Value.bool (← Op.equal 108 _ _)) : Sem Value)).run Tryz.prog w = _
  unfold Op.equal Op.maxDepth Op.equalIn
  simp only [Sem.run_bind, run_underlying Tryz.underlying108, Result.andThen_ok, hs, Std.Legacy.Range.forIn_eq_forIn_range', hl]
  erw [h]
  simp only [List.all_cons, List.all_nil, Bool.and_true]
  generalize hb : ((a0 == b0) && ((a1 == b1) && ((a2 == b2) && ((a3 == b3) && (a4 == b4))))) = b
  have hb' : ((([a0, a1, a2, a3, a4].getD 0 0 == [b0, b1, b2, b3, b4].getD 0 0) && (([a0, a1, a2, a3, a4].getD 1 0 == [b0, b1, b2, b3, b4].getD 1 0) && (([a0, a1, a2, a3, a4].getD 2 0 == [b0, b1, b2, b3, b4].getD 2 0) && (([a0, a1, a2, a3, a4].getD 3 0 == [b0, b1, b2, b3, b4].getD 3 0) && ([a0, a1, a2, a3, a4].getD 4 0 == [b0, b1, b2, b3, b4].getD 4 0)))))) = b := hb
  rw [hb']
  cases b <;> rfl
theorem neq_stamp (a b c d : Int) (w : World) : (binOp .neq 68 (.agg #[.int .i64 a, .int .i64 b]) (.agg #[.int .i64 c, .int .i64 d])).run Tryz.prog w = .ok (.bool (!((a == c) && (b == d)))) w := by
  have e0 := fun (x : Array Value) (v : Value) (h : x[0]? = some v) => run_part_plain (P := Tryz.prog) w (e := 3) (by kernel_rfl) (off := 0) h
  have e1 := fun (x : Array Value) (v : Value) (h : x[1]? = some v) => run_part_plain (P := Tryz.prog) w (e := 3) (by kernel_rfl) (off := 1) h
  have hf : (Tryz.prog.fieldsOf 68).toList.map (fun f => (f.name, f.type, f.offset)) = [("Atom", 3, 0), ("N", 3, 1)] := by kernel_rfl
  show ((do pure (Value.bool (!(← Op.equal 68 _ _))) : Sem Value)).run Tryz.prog w = _
  unfold Op.equal Op.maxDepth
  rw [Sem.run_bind, run_equalIn_struct w 9999 68 _ _ (by kernel_rfl) (by kernel_rfl)]
  generalize (Tryz.prog.fieldsOf 68).toList = fs at hf ⊢
  rcases fs with - | ⟨f, - | ⟨g, - | ⟨u, fs⟩⟩⟩
  · simp at hf
  · simp at hf
  · simp only [List.map_cons, List.map_nil, List.cons.injEq, Prod.mk.injEq, and_true] at hf
    obtain ⟨⟨n0, t0, o0⟩, n1, t1, o1⟩ := hf
    have q0 : (Op.equalIn 9999 3 (.int .i64 a) (.int .i64 c)).run Tryz.prog w = .ok (a == c) w := run_equalIn_int w 9998 3 .i64 .i64 a c Tryz.underlying3
    have q1 : (Op.equalIn 9999 3 (.int .i64 b) (.int .i64 d)).run Tryz.prog w = .ok (b == d) w := run_equalIn_int w 9998 3 .i64 .i64 b d Tryz.underlying3
    simp only [Op.eqFields, n0, t0, o0, n1, t1, o1, ne_eq, String.reduceEq, not_false_eq_true, if_true, Sem.run_bind, e0 #[.int .i64 a, .int .i64 b] (.int .i64 a) rfl, e0 #[.int .i64 c, .int .i64 d] (.int .i64 c) rfl, Result.andThen_ok, q0]
    cases h1 : (a == c)
    · rfl
    · simp only [Bool.not_true, Bool.false_eq_true, if_false, Sem.run_bind, e1 #[.int .i64 a, .int .i64 b] (.int .i64 b) rfl, e1 #[.int .i64 c, .int .i64 d] (.int .i64 d) rfl, Result.andThen_ok, q1]
      cases h2 : (b == d) <;> rfl
  · simp at hf
end Go.Proofs.YtgenmebmdpnjhaaGreat
