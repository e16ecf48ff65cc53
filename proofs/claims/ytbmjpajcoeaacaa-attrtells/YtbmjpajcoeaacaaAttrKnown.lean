
/- AttrKnown: the walk. -/
import Derived.Test.YtbmjpajcoeaacaaAttSame
import Derived.Test.YtbmjpajcoeaacaaAttRight
import Derived.Test.YtbmjpajcoeaacaaHeld
namespace Go.Proofs.Ytbmjpajcoeaacaa
open Go.RowKit

namespace At
def a1 : Att := ⟨⟨#[97]⟩, ⟨1, 2, 0, ⟨#[]⟩, false⟩⟩
def a2 : Att := ⟨⟨#[98]⟩, ⟨1, 1, 0, ⟨#[]⟩, false⟩⟩
end At
abbrev two1 : Obj := .cells #[.string ⟨#[97]⟩, .int .i64 1, .int .i64 2, .float .f64 0, .string ⟨#[]⟩, .bool false, .string ⟨#[98]⟩, .int .i64 1, .int .i64 1, .float .f64 0, .string ⟨#[]⟩, .bool false] 27 (0, 0)
abbrev two2 : Obj := .cells #[.string ⟨#[98]⟩, .int .i64 1, .int .i64 1, .float .f64 0, .string ⟨#[]⟩, .bool false, .string ⟨#[97]⟩, .int .i64 1, .int .i64 2, .float .f64 0, .string ⟨#[]⟩, .bool false] 27 (0, 0)
abbrev two3 : Obj := .cells #[.string ⟨#[97]⟩, .int .i64 1, .int .i64 2, .float .f64 0, .string ⟨#[]⟩, .bool false, .string ⟨#[97]⟩, .int .i64 1, .int .i64 2, .float .f64 0, .string ⟨#[]⟩, .bool false] 27 (0, 0)
theorem ats_row {w : World} {g : Nat} {l : List Att} {n : Nat} {cs : Array Value} {t : TypeId} {fr : Nat × Nat} (h : w.heap[g]? = some (.cells cs t fr)) (hc : cs.toList = flat l) (hn : l.length = n) (hz : ∀ a, a ∈ l → a.name.size ≤ 9223372036854775807) (hf : n ≤ 9223372036854775807) : Ats w (some ⟨g, 0, none⟩) n l := by
  refine ⟨⟨by rw [flat_len _ Att.cells_len, hn], .inr ⟨g, 0, rfl, fun j u hj => ?_⟩⟩, hz, hf⟩
  rw [← hc] at hj
  simp [World.cell?, h]
  simpa using hj
theorem ats_two1 {w : World} {g : Nat} (h : w.heap[g]? = some two1) : Ats w (some ⟨g, 0, none⟩) 2 [At.a1, At.a2] := ats_row h rfl rfl (by simp only [List.mem_cons, List.not_mem_nil, or_false]; rintro a (rfl | rfl) <;> decide) (by omega)
theorem ats_two2 {w : World} {g : Nat} (h : w.heap[g]? = some two2) : Ats w (some ⟨g, 0, none⟩) 2 [At.a2, At.a1] := ats_row h rfl rfl (by simp only [List.mem_cons, List.not_mem_nil, or_false]; rintro a (rfl | rfl) <;> decide) (by omega)
theorem ats_two3 {w : World} {g : Nat} (h : w.heap[g]? = some two3) : Ats w (some ⟨g, 0, none⟩) 2 [At.a1, At.a1] := ats_row h rfl rfl (by simp only [List.mem_cons, List.not_mem_nil, or_false]; rintro a (rfl | rfl) <;> decide) (by omega)
theorem ats_nil (w : World) (A : Option Addr) : Ats w A 0 [] := ⟨Rs.nil _ _ _, by simp, by omega⟩

set_option pp.deepTerms true in
set_option pp.maxSteps 10000000 in
set_option maxRecDepth 100000 in
set_option maxHeartbeats 4000000 in
theorem aknown_any (w : World) : Calls Try.prog 3 #[] w fun e w' => e = .returned (.bool true) ∧ Below w.heap.size w w' := by
  have hst := store_float
  have kg1 : gotv [At.a1, At.a2] ⟨#[98]⟩ = .tuple #[vl 1 1 0 ⟨#[]⟩ false, .bool true] := by kernel_rfl
  have kg2 : gotv [At.a1, At.a2] ⟨#[99]⟩ = .tuple #[vl 0 0 0 ⟨#[]⟩ false, .bool false] := by kernel_rfl
  have KG1 := Lib.hid kg1
  have KG2 := Lib.hid kg2
  clear kg1 kg2
  go_enter Try.func3, Try.ntmps3
  go_wp2_with fail
  refine (vint_any _ _).mono ?_
  rintro e w1 ⟨rfl, hb1⟩
  go_wp2_with fail
  refine (vint_any _ _).mono ?_
  rintro e w2 ⟨rfl, hb2⟩
  have HB2 := Lib.hid (below_then hb1 hb2)
  clear hb1 hb2
  go_upto_region 2 with fail
  have HB3 := Lib.hid (below_then HB2.out (one_new w2 two1))
  have HT : Hid ((w2.alloc two1).heap[w2.heap.size]? = some two1) := heap_alloc_new _ _
  generalize w2.alloc (.cells #[.string ⟨#[97]⟩, .int .i64 1, .int .i64 2, .float .f64 0, .string ⟨#[]⟩, .bool false, .string ⟨#[98]⟩, .int .i64 1, .int .i64 1, .float .f64 0, .string ⟨#[]⟩, .bool false] 27) = w3 at HB3 HT ⊢
  generalize w2.heap.size = g at HT ⊢
  clear HB2
  go_wp2_with fail
  refine (get_any (ats_two1 HT.out)).mono ?_
  rw [KG1.out]
  rintro e w4 ⟨rfl, hb4⟩
  replace HB3 := Lib.hid (below_then HB3.out hb4)
  replace HT := Lib.hid (below_row hb4 HT.out)
  clear hb4 w3
  go_upto_region 3 with fail
  replace HB3 := Lib.hid (below_then HB3.out (one_new w4 (.cells #[.int .i64 1, .int .i64 1, .float .f64 0, .string ⟨#[]⟩, .bool false] 24)))
  replace HT := Lib.hid (below_row (one_new w4 (.cells #[.int .i64 1, .int .i64 1, .float .f64 0, .string ⟨#[]⟩, .bool false] 24)) HT.out)
  have HV1 : Hid ((w4.alloc (.cells #[.int .i64 1, .int .i64 1, .float .f64 0, .string ⟨#[]⟩, .bool false] 24)).heap[w4.heap.size]? = some (.cells #[.int .i64 1, .int .i64 1, .float .f64 0, .string ⟨#[]⟩, .bool false] 24 (0, 0))) := heap_alloc_new _ _
  generalize w4.alloc (.cells #[.int .i64 1, .int .i64 1, .float .f64 0, .string ⟨#[]⟩, .bool false] 24) = w5 at HB3 HT HV1 ⊢
  generalize w4.heap.size = p1 at HV1 ⊢
  go_wp2_with fail
  refine (get_any (ats_two1 HT.out)).mono ?_
  rw [KG2.out]
  rintro e w6 ⟨rfl, hb6⟩
  replace HB3 := Lib.hid (below_then HB3.out hb6)
  replace HT := Lib.hid (below_row hb6 HT.out)
  replace HV1 := Lib.hid (below_row hb6 HV1.out)
  clear hb6 w5 w4
  go_upto_region 4 with fail
  replace HB3 := Lib.hid (below_then HB3.out (one_new w6 (zero5 24)))
  replace HT := Lib.hid (below_row (one_new w6 (zero5 24)) HT.out)
  replace HV1 := Lib.hid (below_row (one_new w6 (zero5 24)) HV1.out)
  have HV2 : Hid ((w6.alloc (zero5 24)).heap[w6.heap.size]? = some (zero5 24)) := heap_alloc_new _ _
  generalize w6.alloc (.cells #[.int .i64 0, .int .i64 0, .float .f64 0, .string ⟨#[]⟩, .bool false] 24) = w7 at HB3 HT HV1 HV2 ⊢
  generalize w6.heap.size = p2 at HV2 ⊢
  clear w6
  have c0 := cell_of_row _ _ 0 _ _ _ HT.out
  have c1 := cell_of_row _ _ 1 _ _ _ HT.out
  have c2 := cell_of_row _ _ 2 _ _ _ HT.out
  have c3 := cell_of_row _ _ 3 _ _ _ HT.out
  have c4 := cell_of_row _ _ 4 _ _ _ HT.out
  have c5 := cell_of_row _ _ 5 _ _ _ HT.out
  have c6 := cell_of_row _ _ 6 _ _ _ HT.out
  have c7 := cell_of_row _ _ 7 _ _ _ HT.out
  have c8 := cell_of_row _ _ 8 _ _ _ HT.out
  have c9 := cell_of_row _ _ 9 _ _ _ HT.out
  have ca := cell_of_row _ _ 10 _ _ _ HT.out
  have cb := cell_of_row _ _ 11 _ _ _ HT.out
  refine held_begin (fun z => Below w7.heap.size w7 z) (by kernel_rfl) ?_
  have HB : Hid (Below w7.heap.size w7 w7.drew) := drew_below w7
  generalize w7.drew = wd at HB ⊢
  refine held_read (i := 0) (o := { dst := some 22, op := Op.move (Operand.tmp 1), type := 28, pos := "law.go:17", after := #[], guard := none }) (v := ?_) rfl (by kernel_rfl) (by kernel_rfl) (by kernel_rfl) (fun _ _ _ h => h) (by rfl) HB.out ?_ ?_
  rotate_left
  · (intro x hx; have e0 := load_at hx c0; have e1 := load_at hx c1; have e2 := load_at hx c2; have e3 := load_at hx c3; have e4 := load_at hx c4; have e5 := load_at hx c5; have e6 := load_at hx c6; have e7 := load_at hx c7; have e8 := load_at hx c8; have e9 := load_at hx c9; have ea := load_at hx ca; have eb := load_at hx cb; go_simp; try with_reducible rfl)
  try simp only [Act.put, List.setIfInBounds_toArray, List.set_cons_zero, List.set_cons_succ]
  refine held_read (i := 1) (o := { dst := some 23, op := Op.indexAddr 28 (Operand.tmp 22) (Operand.const (Value.int IntKind.i64 1)), type := 0, pos := "law.go:17", after := #[{ on := 0, ground := Ground.data }], guard := none }) (v := ?_) rfl (by kernel_rfl) (by kernel_rfl) (by kernel_rfl) (fun _ _ _ h => h) (by rfl) HB.out ?_ ?_
  rotate_left
  · (intro x hx; have e0 := load_at hx c0; have e1 := load_at hx c1; have e2 := load_at hx c2; have e3 := load_at hx c3; have e4 := load_at hx c4; have e5 := load_at hx c5; have e6 := load_at hx c6; have e7 := load_at hx c7; have e8 := load_at hx c8; have e9 := load_at hx c9; have ea := load_at hx ca; have eb := load_at hx cb; go_simp; try with_reducible rfl)
  try simp only [Act.put, List.setIfInBounds_toArray, List.set_cons_zero, List.set_cons_succ]
  refine held_read (i := 2) (o := { dst := some 24, op := Op.load 27 (Operand.tmp 23), type := 27, pos := "law.go:17", after := #[{ on := 1, ground := Ground.data }], guard := none }) (v := ?_) rfl (by kernel_rfl) (by kernel_rfl) (by kernel_rfl) (fun _ _ _ h => h) (by rfl) HB.out ?_ ?_
  rotate_left
  · (intro x hx; have e0 := load_at hx c0; have e1 := load_at hx c1; have e2 := load_at hx c2; have e3 := load_at hx c3; have e4 := load_at hx c4; have e5 := load_at hx c5; have e6 := load_at hx c6; have e7 := load_at hx c7; have e8 := load_at hx c8; have e9 := load_at hx c9; have ea := load_at hx ca; have eb := load_at hx cb; go_simp; try with_reducible rfl)
  try simp only [Act.put, List.setIfInBounds_toArray, List.set_cons_zero, List.set_cons_succ]
  refine held_read (i := 3) (o := { dst := some 25, op := Op.move (Operand.tmp 1), type := 28, pos := "law.go:17", after := #[], guard := none }) (v := ?_) rfl (by kernel_rfl) (by kernel_rfl) (by kernel_rfl) (fun _ _ _ h => h) (by rfl) HB.out ?_ ?_
  rotate_left
  · (intro x hx; have e0 := load_at hx c0; have e1 := load_at hx c1; have e2 := load_at hx c2; have e3 := load_at hx c3; have e4 := load_at hx c4; have e5 := load_at hx c5; have e6 := load_at hx c6; have e7 := load_at hx c7; have e8 := load_at hx c8; have e9 := load_at hx c9; have ea := load_at hx ca; have eb := load_at hx cb; go_simp; try with_reducible rfl)
  try simp only [Act.put, List.setIfInBounds_toArray, List.set_cons_zero, List.set_cons_succ]
  refine held_read (i := 4) (o := { dst := some 26, op := Op.indexAddr 28 (Operand.tmp 25) (Operand.const (Value.int IntKind.i64 0)), type := 0, pos := "law.go:17", after := #[{ on := 3, ground := Ground.data }], guard := none }) (v := ?_) rfl (by kernel_rfl) (by kernel_rfl) (by kernel_rfl) (fun _ _ _ h => h) (by rfl) HB.out ?_ ?_
  rotate_left
  · (intro x hx; have e0 := load_at hx c0; have e1 := load_at hx c1; have e2 := load_at hx c2; have e3 := load_at hx c3; have e4 := load_at hx c4; have e5 := load_at hx c5; have e6 := load_at hx c6; have e7 := load_at hx c7; have e8 := load_at hx c8; have e9 := load_at hx c9; have ea := load_at hx ca; have eb := load_at hx cb; go_simp; try with_reducible rfl)
  try simp only [Act.put, List.setIfInBounds_toArray, List.set_cons_zero, List.set_cons_succ]
  refine held_read (i := 5) (o := { dst := some 27, op := Op.load 27 (Operand.tmp 26), type := 27, pos := "law.go:17", after := #[{ on := 4, ground := Ground.data }], guard := none }) (v := ?_) rfl (by kernel_rfl) (by kernel_rfl) (by kernel_rfl) (fun _ _ _ h => h) (by rfl) HB.out ?_ ?_
  rotate_left
  · (intro x hx; have e0 := load_at hx c0; have e1 := load_at hx c1; have e2 := load_at hx c2; have e3 := load_at hx c3; have e4 := load_at hx c4; have e5 := load_at hx c5; have e6 := load_at hx c6; have e7 := load_at hx c7; have e8 := load_at hx c8; have e9 := load_at hx c9; have ea := load_at hx ca; have eb := load_at hx cb; go_simp; try with_reducible rfl)
  try simp only [Act.put, List.setIfInBounds_toArray, List.set_cons_zero, List.set_cons_succ]
  refine held_call (i := 6) (o := { dst := some 28, op := Op.buildSlice 28 2 #[(0, Operand.tmp 24), (1, Operand.tmp 27)], type := 28, pos := "law.go:17", after := #[{ on := 2, ground := Ground.data }, { on := 5, ground := Ground.data }], guard := none }) rfl (by kernel_rfl) (by rfl) (fun K hK => ?_)
  go_simp
  have hn := one_new wd two2
  have HT2 : Hid ((wd.alloc two2).heap[wd.heap.size]? = some two2) := heap_alloc_new _ _
  replace HB := Lib.hid (below_then HB.out hn)
  refine hK.out _ _ HB.out ?_
  clear hn hK K
  generalize wd.alloc (.cells #[.string ⟨#[98]⟩, .int .i64 1, .int .i64 1, .float .f64 0, .string ⟨#[]⟩, .bool false, .string ⟨#[97]⟩, .int .i64 1, .int .i64 2, .float .f64 0, .string ⟨#[]⟩, .bool false] 27) = w8 at HB HT2 ⊢
  generalize wd.heap.size = g2 at HT2 ⊢
  clear wd
  try simp only [Act.put, List.setIfInBounds_toArray, List.set_cons_zero, List.set_cons_succ]
  refine held_read (i := 7) (o := { dst := some 6, op := Op.assign (Operand.tmp 28), type := 28, pos := "law.go:17", after := #[{ on := 6, ground := Ground.data }, { on := 0, ground := Ground.phase }, { on := 1, ground := Ground.phase }, { on := 2, ground := Ground.phase }, { on := 3, ground := Ground.phase }, { on := 4, ground := Ground.phase }, { on := 5, ground := Ground.phase }, { on := 6, ground := Ground.phase }], guard := none }) (v := ?_) rfl (by kernel_rfl) (by kernel_rfl) (by kernel_rfl) (fun _ _ _ h => h) (by rfl) HB.out ?_ ?_
  rotate_left
  · (intro x hx; have e0 := load_at hx c0; have e1 := load_at hx c1; have e2 := load_at hx c2; have e3 := load_at hx c3; have e4 := load_at hx c4; have e5 := load_at hx c5; have e6 := load_at hx c6; have e7 := load_at hx c7; have e8 := load_at hx c8; have e9 := load_at hx c9; have ea := load_at hx ca; have eb := load_at hx cb; go_simp; try with_reducible rfl)
  try simp only [Act.put, List.setIfInBounds_toArray, List.set_cons_zero, List.set_cons_succ]
  refine wpAnyH_done (by kernel_rfl) ?_ _
  clear c0 c1 c2 c3 c4 c5 c6 c7 c8 c9 ca cb
  replace HB3 := Lib.hid (below_then HB3.out HB.out)
  replace HT := Lib.hid (below_row HB.out HT.out)
  replace HV1 := Lib.hid (below_row HB.out HV1.out)
  replace HV2 := Lib.hid (below_row HB.out HV2.out)
  clear HB w7
  go_wp2_with fail
  have c0 := cell_of_row _ _ 0 _ _ _ HT.out
  have c1 := cell_of_row _ _ 1 _ _ _ HT.out
  have c2 := cell_of_row _ _ 2 _ _ _ HT.out
  have c3 := cell_of_row _ _ 3 _ _ _ HT.out
  have c4 := cell_of_row _ _ 4 _ _ _ HT.out
  have c5 := cell_of_row _ _ 5 _ _ _ HT.out
  have v0 := cell_of_row _ _ 0 _ _ _ HV1.out
  have v1 := cell_of_row _ _ 1 _ _ _ HV1.out
  have v2 := cell_of_row _ _ 2 _ _ _ HV1.out
  have v3 := cell_of_row _ _ 3 _ _ _ HV1.out
  have v4 := cell_of_row _ _ 4 _ _ _ HV1.out
  have k0 := cell_of_row _ _ 0 _ _ _ HV2.out
  have KS : Hid (Vl.same ⟨1, 1, 0, ⟨#[]⟩, false⟩ ⟨1, 1, 0, ⟨#[]⟩, false⟩ = true) := (by decide +kernel : Vl.same ⟨1, 1, 0, ⟨#[]⟩, false⟩ ⟨1, 1, 0, ⟨#[]⟩, false⟩ = true)
  have KR1 : Hid (At.right [At.a1, At.a2] = true) := (by decide +kernel : At.right [At.a1, At.a2] = true)
  have KR2 : Hid (At.right [At.a2, At.a1] = false) := (by decide +kernel : At.right [At.a2, At.a1] = false)
  have KR3 : Hid (At.right [At.a1, At.a1] = false) := (by decide +kernel : At.right [At.a1, At.a1] = false)
  have KR0 : Hid (At.right [] = true) := (by decide +kernel : At.right [] = true)
  have KW1 : Hid (At.word ⟨#[97, 98, 99, 100, 101, 102]⟩ = true) := (by decide +kernel : At.word ⟨#[97, 98, 99, 100, 101, 102]⟩ = true)
  have KW2 : Hid (At.word ⟨#[97, 98, 99, 100, 101, 102, 103]⟩ = false) := (by decide +kernel : At.word ⟨#[97, 98, 99, 100, 101, 102, 103]⟩ = false)
  have KW3 : Hid (At.word ⟨#[]⟩ = false) := (by decide +kernel : At.word ⟨#[]⟩ = false)
  have KW4 : Hid (At.word ⟨#[97, 49]⟩ = false) := (by decide +kernel : At.word ⟨#[97, 49]⟩ = false)
  have KS2 : Hid (At.same [At.a1, At.a2] [At.a2, At.a1] = false) := (by decide +kernel : At.same [At.a1, At.a2] [At.a2, At.a1] = false)
  have KS1 : Hid (At.same [At.a1, At.a2] [At.a1, At.a2] = true) := (by decide +kernel : At.same [At.a1, At.a2] [At.a1, At.a2] = true)
  refine held_begin (fun z => Below w8.heap.size w8 z) (by kernel_rfl) ?_
  have HB : Hid (Below w8.heap.size w8 w8.drew) := drew_below w8
  generalize w8.drew = y0 at HB ⊢
  refine held_read (i := 0) (o := { dst := some 29, op := Op.move (Operand.tmp 3), type := 4, pos := "law.go:18", after := #[], guard := none }) (v := ?_) rfl (by kernel_rfl) (by kernel_rfl) (by kernel_rfl) (fun _ _ _ h => h) (by rfl) HB.out ?_ ?_
  rotate_left
  · (intro x hx; have e0 := load_at hx c0; have e1 := load_at hx c1; have e2 := load_at hx c2; have e3 := load_at hx c3; have e4 := load_at hx c4; have e5 := load_at hx c5; have r0 := load_at hx v0; have r1 := load_at hx v1; have r2 := load_at hx v2; have r3 := load_at hx v3; have r4 := load_at hx v4; have r5 := load_at hx k0; go_simp; try with_reducible rfl)
  try simp only [Act.put, List.setIfInBounds_toArray, List.set_cons_zero, List.set_cons_succ]
  refine held_read (i := 1) (o := { dst := some 30, op := Op.move (Operand.tmp 29), type := 4, pos := "law.go:18", after := #[{ on := 0, ground := Ground.data }], guard := none }) (v := ?_) rfl (by kernel_rfl) (by kernel_rfl) (by kernel_rfl) (fun _ _ _ h => h) (by rfl) HB.out ?_ ?_
  rotate_left
  · (intro x hx; have e0 := load_at hx c0; have e1 := load_at hx c1; have e2 := load_at hx c2; have e3 := load_at hx c3; have e4 := load_at hx c4; have e5 := load_at hx c5; have r0 := load_at hx v0; have r1 := load_at hx v1; have r2 := load_at hx v2; have r3 := load_at hx v3; have r4 := load_at hx v4; have r5 := load_at hx k0; go_simp; try with_reducible rfl)
  try simp only [Act.put, List.setIfInBounds_toArray, List.set_cons_zero, List.set_cons_succ]
  refine held_read (i := 2) (o := { dst := some 31, op := Op.load 24 (Operand.tmp 2), type := 24, pos := "law.go:18", after := #[{ on := 1, ground := Ground.guard }], guard := some (1, true) }) (v := ?_) rfl (by kernel_rfl) (by kernel_rfl) (by kernel_rfl) (fun _ _ _ h => h) (by rfl) HB.out ?_ ?_
  rotate_left
  · (intro x hx; have e0 := load_at hx c0; have e1 := load_at hx c1; have e2 := load_at hx c2; have e3 := load_at hx c3; have e4 := load_at hx c4; have e5 := load_at hx c5; have r0 := load_at hx v0; have r1 := load_at hx v1; have r2 := load_at hx v2; have r3 := load_at hx v3; have r4 := load_at hx v4; have r5 := load_at hx k0; go_simp; try with_reducible rfl)
  try simp only [Act.put, List.setIfInBounds_toArray, List.set_cons_zero, List.set_cons_succ]
  refine held_call (i := 3) (o := { dst := some 32, op := Op.call { callee := Callee.value (Operand.func 7), args := #[Operand.const (Value.int IntKind.i64 1)], argTypes := #[2] }, type := 24, pos := "law.go:18", after := #[{ on := 1, ground := Ground.chain }, { on := 1, ground := Ground.guard }], guard := some (1, true) }) rfl (by kernel_rfl) (by rfl) (fun K hK => ?_)
  go_simp
  refine (vint_any _ _).mono ?_
  rintro e y3 ⟨rfl, hb⟩
  replace HB := Lib.hid (below_then HB.out hb)
  refine hK.out _ _ HB.out ?_
  clear hb hK K
  try simp only [Act.put, List.setIfInBounds_toArray, List.set_cons_zero, List.set_cons_succ]
  refine held_call (i := 4) (o := { dst := some 33, op := Op.call { callee := Callee.value (Operand.func 9), args := #[Operand.tmp 31, Operand.tmp 32], argTypes := #[24, 24] }, type := 4, pos := "law.go:18", after := #[{ on := 2, ground := Ground.data }, { on := 3, ground := Ground.data }, { on := 3, ground := Ground.chain }, { on := 1, ground := Ground.guard }], guard := some (1, true) }) rfl (by kernel_rfl) (by rfl) (fun K hK => ?_)
  go_simp
  refine (vsame_any _ _ _ _ _ _ _ _ _ _ _).mono ?_
  rw [KS.out]
  rintro e y4 ⟨rfl, hb⟩
  replace HB := Lib.hid (below_then HB.out hb)
  refine hK.out _ _ HB.out ?_
  clear hb hK K
  try simp only [Act.put, List.setIfInBounds_toArray, List.set_cons_zero, List.set_cons_succ]
  refine held_read (i := 5) (o := { dst := some 34, op := Op.pick (Operand.tmp 30) (Operand.tmp 33) (Operand.const (Value.bool false)), type := 4, pos := "law.go:18", after := #[{ on := 1, ground := Ground.data }, { on := 4, ground := Ground.data }], guard := none }) (v := ?_) rfl (by kernel_rfl) (by kernel_rfl) (by kernel_rfl) (fun _ _ _ h => h) (by rfl) HB.out ?_ ?_
  rotate_left
  · (intro x hx; have e0 := load_at hx c0; have e1 := load_at hx c1; have e2 := load_at hx c2; have e3 := load_at hx c3; have e4 := load_at hx c4; have e5 := load_at hx c5; have r0 := load_at hx v0; have r1 := load_at hx v1; have r2 := load_at hx v2; have r3 := load_at hx v3; have r4 := load_at hx v4; have r5 := load_at hx k0; go_simp; try with_reducible rfl)
  try simp only [Act.put, List.setIfInBounds_toArray, List.set_cons_zero, List.set_cons_succ]
  refine held_read (i := 6) (o := { dst := some 35, op := Op.move (Operand.tmp 34), type := 4, pos := "law.go:18", after := #[{ on := 5, ground := Ground.data }, { on := 4, ground := Ground.chain }], guard := none }) (v := ?_) rfl (by kernel_rfl) (by kernel_rfl) (by kernel_rfl) (fun _ _ _ h => h) (by rfl) HB.out ?_ ?_
  rotate_left
  · (intro x hx; have e0 := load_at hx c0; have e1 := load_at hx c1; have e2 := load_at hx c2; have e3 := load_at hx c3; have e4 := load_at hx c4; have e5 := load_at hx c5; have r0 := load_at hx v0; have r1 := load_at hx v1; have r2 := load_at hx v2; have r3 := load_at hx v3; have r4 := load_at hx v4; have r5 := load_at hx k0; go_simp; try with_reducible rfl)
  try simp only [Act.put, List.setIfInBounds_toArray, List.set_cons_zero, List.set_cons_succ]
  refine held_read (i := 7) (o := { dst := some 36, op := Op.move (Operand.tmp 5), type := 4, pos := "law.go:18", after := #[{ on := 6, ground := Ground.guard }], guard := some (6, true) }) (v := ?_) rfl (by kernel_rfl) (by kernel_rfl) (by kernel_rfl) (fun _ _ _ h => h) (by rfl) HB.out ?_ ?_
  rotate_left
  · (intro x hx; have e0 := load_at hx c0; have e1 := load_at hx c1; have e2 := load_at hx c2; have e3 := load_at hx c3; have e4 := load_at hx c4; have e5 := load_at hx c5; have r0 := load_at hx v0; have r1 := load_at hx v1; have r2 := load_at hx v2; have r3 := load_at hx v3; have r4 := load_at hx v4; have r5 := load_at hx k0; go_simp; try with_reducible rfl)
  try simp only [Act.put, List.setIfInBounds_toArray, List.set_cons_zero, List.set_cons_succ]
  refine held_read (i := 8) (o := { dst := some 37, op := Op.unOp UnOp.not 4 (Operand.tmp 36), type := 4, pos := "law.go:18", after := #[{ on := 7, ground := Ground.data }, { on := 6, ground := Ground.guard }], guard := some (6, true) }) (v := ?_) rfl (by kernel_rfl) (by kernel_rfl) (by kernel_rfl) (fun _ _ _ h => h) (by rfl) HB.out ?_ ?_
  rotate_left
  · (intro x hx; have e0 := load_at hx c0; have e1 := load_at hx c1; have e2 := load_at hx c2; have e3 := load_at hx c3; have e4 := load_at hx c4; have e5 := load_at hx c5; have r0 := load_at hx v0; have r1 := load_at hx v1; have r2 := load_at hx v2; have r3 := load_at hx v3; have r4 := load_at hx v4; have r5 := load_at hx k0; go_simp; try with_reducible rfl)
  try simp only [Act.put, List.setIfInBounds_toArray, List.set_cons_zero, List.set_cons_succ]
  refine held_read (i := 9) (o := { dst := some 38, op := Op.pick (Operand.tmp 35) (Operand.tmp 37) (Operand.const (Value.bool false)), type := 4, pos := "law.go:18", after := #[{ on := 6, ground := Ground.data }, { on := 8, ground := Ground.data }], guard := none }) (v := ?_) rfl (by kernel_rfl) (by kernel_rfl) (by kernel_rfl) (fun _ _ _ h => h) (by rfl) HB.out ?_ ?_
  rotate_left
  · (intro x hx; have e0 := load_at hx c0; have e1 := load_at hx c1; have e2 := load_at hx c2; have e3 := load_at hx c3; have e4 := load_at hx c4; have e5 := load_at hx c5; have r0 := load_at hx v0; have r1 := load_at hx v1; have r2 := load_at hx v2; have r3 := load_at hx v3; have r4 := load_at hx v4; have r5 := load_at hx k0; go_simp; try with_reducible rfl)
  try simp only [Act.put, List.setIfInBounds_toArray, List.set_cons_zero, List.set_cons_succ]
  refine held_read (i := 10) (o := { dst := some 39, op := Op.move (Operand.tmp 38), type := 4, pos := "law.go:18", after := #[{ on := 9, ground := Ground.data }, { on := 6, ground := Ground.chain }], guard := none }) (v := ?_) rfl (by kernel_rfl) (by kernel_rfl) (by kernel_rfl) (fun _ _ _ h => h) (by rfl) HB.out ?_ ?_
  rotate_left
  · (intro x hx; have e0 := load_at hx c0; have e1 := load_at hx c1; have e2 := load_at hx c2; have e3 := load_at hx c3; have e4 := load_at hx c4; have e5 := load_at hx c5; have r0 := load_at hx v0; have r1 := load_at hx v1; have r2 := load_at hx v2; have r3 := load_at hx v3; have r4 := load_at hx v4; have r5 := load_at hx k0; go_simp; try with_reducible rfl)
  try simp only [Act.put, List.setIfInBounds_toArray, List.set_cons_zero, List.set_cons_succ]
  refine held_read (i := 11) (o := { dst := some 40, op := Op.fieldAddr 24 (Operand.tmp 4) 0, type := 0, pos := "law.go:18", after := #[{ on := 10, ground := Ground.guard }], guard := some (10, true) }) (v := ?_) rfl (by kernel_rfl) (by kernel_rfl) (by kernel_rfl) (fun _ _ _ h => h) (by rfl) HB.out ?_ ?_
  rotate_left
  · (intro x hx; have e0 := load_at hx c0; have e1 := load_at hx c1; have e2 := load_at hx c2; have e3 := load_at hx c3; have e4 := load_at hx c4; have e5 := load_at hx c5; have r0 := load_at hx v0; have r1 := load_at hx v1; have r2 := load_at hx v2; have r3 := load_at hx v3; have r4 := load_at hx v4; have r5 := load_at hx k0; go_simp; try with_reducible rfl)
  try simp only [Act.put, List.setIfInBounds_toArray, List.set_cons_zero, List.set_cons_succ]
  refine held_read (i := 12) (o := { dst := some 41, op := Op.load 3 (Operand.tmp 40), type := 3, pos := "law.go:18", after := #[{ on := 11, ground := Ground.data }, { on := 10, ground := Ground.guard }], guard := some (10, true) }) (v := ?_) rfl (by kernel_rfl) (by kernel_rfl) (by kernel_rfl) (fun _ _ _ h => h) (by rfl) HB.out ?_ ?_
  rotate_left
  · (intro x hx; have e0 := load_at hx c0; have e1 := load_at hx c1; have e2 := load_at hx c2; have e3 := load_at hx c3; have e4 := load_at hx c4; have e5 := load_at hx c5; have r0 := load_at hx v0; have r1 := load_at hx v1; have r2 := load_at hx v2; have r3 := load_at hx v3; have r4 := load_at hx v4; have r5 := load_at hx k0; go_simp; try with_reducible rfl)
  try simp only [Act.put, List.setIfInBounds_toArray, List.set_cons_zero, List.set_cons_succ]
  refine held_read (i := 13) (o := { dst := some 42, op := Op.binOp BinOp.eql 3 (Operand.tmp 41) (Operand.const (Value.int IntKind.i64 0)) 3, type := 4, pos := "law.go:18", after := #[{ on := 12, ground := Ground.data }, { on := 10, ground := Ground.guard }], guard := some (10, true) }) (v := ?_) rfl (by kernel_rfl) (by kernel_rfl) (by kernel_rfl) (fun _ _ _ h => h) (by rfl) HB.out ?_ ?_
  rotate_left
  · (intro x hx; have e0 := load_at hx c0; have e1 := load_at hx c1; have e2 := load_at hx c2; have e3 := load_at hx c3; have e4 := load_at hx c4; have e5 := load_at hx c5; have r0 := load_at hx v0; have r1 := load_at hx v1; have r2 := load_at hx v2; have r3 := load_at hx v3; have r4 := load_at hx v4; have r5 := load_at hx k0; go_simp; try with_reducible rfl)
  try simp only [Act.put, List.setIfInBounds_toArray, List.set_cons_zero, List.set_cons_succ]
  refine held_read (i := 14) (o := { dst := some 43, op := Op.pick (Operand.tmp 39) (Operand.tmp 42) (Operand.const (Value.bool false)), type := 4, pos := "law.go:18", after := #[{ on := 10, ground := Ground.data }, { on := 13, ground := Ground.data }], guard := none }) (v := ?_) rfl (by kernel_rfl) (by kernel_rfl) (by kernel_rfl) (fun _ _ _ h => h) (by rfl) HB.out ?_ ?_
  rotate_left
  · (intro x hx; have e0 := load_at hx c0; have e1 := load_at hx c1; have e2 := load_at hx c2; have e3 := load_at hx c3; have e4 := load_at hx c4; have e5 := load_at hx c5; have r0 := load_at hx v0; have r1 := load_at hx v1; have r2 := load_at hx v2; have r3 := load_at hx v3; have r4 := load_at hx v4; have r5 := load_at hx k0; go_simp; try with_reducible rfl)
  try simp only [Act.put, List.setIfInBounds_toArray, List.set_cons_zero, List.set_cons_succ]
  refine held_read (i := 15) (o := { dst := some 44, op := Op.move (Operand.tmp 43), type := 4, pos := "law.go:18", after := #[{ on := 14, ground := Ground.data }, { on := 10, ground := Ground.chain }], guard := none }) (v := ?_) rfl (by kernel_rfl) (by kernel_rfl) (by kernel_rfl) (fun _ _ _ h => h) (by rfl) HB.out ?_ ?_
  rotate_left
  · (intro x hx; have e0 := load_at hx c0; have e1 := load_at hx c1; have e2 := load_at hx c2; have e3 := load_at hx c3; have e4 := load_at hx c4; have e5 := load_at hx c5; have r0 := load_at hx v0; have r1 := load_at hx v1; have r2 := load_at hx v2; have r3 := load_at hx v3; have r4 := load_at hx v4; have r5 := load_at hx k0; go_simp; try with_reducible rfl)
  try simp only [Act.put, List.setIfInBounds_toArray, List.set_cons_zero, List.set_cons_succ]
  refine held_read (i := 16) (o := { dst := some 45, op := Op.move (Operand.tmp 1), type := 28, pos := "law.go:18", after := #[{ on := 15, ground := Ground.guard }], guard := some (15, true) }) (v := ?_) rfl (by kernel_rfl) (by kernel_rfl) (by kernel_rfl) (fun _ _ _ h => h) (by rfl) HB.out ?_ ?_
  rotate_left
  · (intro x hx; have e0 := load_at hx c0; have e1 := load_at hx c1; have e2 := load_at hx c2; have e3 := load_at hx c3; have e4 := load_at hx c4; have e5 := load_at hx c5; have r0 := load_at hx v0; have r1 := load_at hx v1; have r2 := load_at hx v2; have r3 := load_at hx v3; have r4 := load_at hx v4; have r5 := load_at hx k0; go_simp; try with_reducible rfl)
  try simp only [Act.put, List.setIfInBounds_toArray, List.set_cons_zero, List.set_cons_succ]
  refine held_call (i := 17) (o := { dst := some 46, op := Op.call { callee := Callee.value (Operand.func 10), args := #[Operand.tmp 45], argTypes := #[28] }, type := 4, pos := "law.go:18", after := #[{ on := 16, ground := Ground.data }, { on := 15, ground := Ground.chain }, { on := 15, ground := Ground.guard }], guard := some (15, true) }) rfl (by kernel_rfl) (by rfl) (fun K hK => ?_)
  go_simp
  refine (aright_any (ats_two1 (below_row HB.out HT.out))).mono ?_
  rw [KR1.out]
  rintro e y17 ⟨rfl, hb⟩
  replace HB := Lib.hid (below_then HB.out hb)
  refine hK.out _ _ HB.out ?_
  clear hb hK K
  try simp only [Act.put, List.setIfInBounds_toArray, List.set_cons_zero, List.set_cons_succ]
  refine held_read (i := 18) (o := { dst := some 47, op := Op.pick (Operand.tmp 44) (Operand.tmp 46) (Operand.const (Value.bool false)), type := 4, pos := "law.go:18", after := #[{ on := 15, ground := Ground.data }, { on := 17, ground := Ground.data }], guard := none }) (v := ?_) rfl (by kernel_rfl) (by kernel_rfl) (by kernel_rfl) (fun _ _ _ h => h) (by rfl) HB.out ?_ ?_
  rotate_left
  · (intro x hx; have e0 := load_at hx c0; have e1 := load_at hx c1; have e2 := load_at hx c2; have e3 := load_at hx c3; have e4 := load_at hx c4; have e5 := load_at hx c5; have r0 := load_at hx v0; have r1 := load_at hx v1; have r2 := load_at hx v2; have r3 := load_at hx v3; have r4 := load_at hx v4; have r5 := load_at hx k0; go_simp; try with_reducible rfl)
  try simp only [Act.put, List.setIfInBounds_toArray, List.set_cons_zero, List.set_cons_succ]
  refine held_read (i := 19) (o := { dst := some 48, op := Op.move (Operand.tmp 47), type := 4, pos := "law.go:18", after := #[{ on := 18, ground := Ground.data }, { on := 17, ground := Ground.chain }], guard := none }) (v := ?_) rfl (by kernel_rfl) (by kernel_rfl) (by kernel_rfl) (fun _ _ _ h => h) (by rfl) HB.out ?_ ?_
  rotate_left
  · (intro x hx; have e0 := load_at hx c0; have e1 := load_at hx c1; have e2 := load_at hx c2; have e3 := load_at hx c3; have e4 := load_at hx c4; have e5 := load_at hx c5; have r0 := load_at hx v0; have r1 := load_at hx v1; have r2 := load_at hx v2; have r3 := load_at hx v3; have r4 := load_at hx v4; have r5 := load_at hx k0; go_simp; try with_reducible rfl)
  try simp only [Act.put, List.setIfInBounds_toArray, List.set_cons_zero, List.set_cons_succ]
  refine held_read (i := 20) (o := { dst := some 49, op := Op.move (Operand.tmp 6), type := 28, pos := "law.go:18", after := #[{ on := 19, ground := Ground.guard }], guard := some (19, true) }) (v := ?_) rfl (by kernel_rfl) (by kernel_rfl) (by kernel_rfl) (fun _ _ _ h => h) (by rfl) HB.out ?_ ?_
  rotate_left
  · (intro x hx; have e0 := load_at hx c0; have e1 := load_at hx c1; have e2 := load_at hx c2; have e3 := load_at hx c3; have e4 := load_at hx c4; have e5 := load_at hx c5; have r0 := load_at hx v0; have r1 := load_at hx v1; have r2 := load_at hx v2; have r3 := load_at hx v3; have r4 := load_at hx v4; have r5 := load_at hx k0; go_simp; try with_reducible rfl)
  try simp only [Act.put, List.setIfInBounds_toArray, List.set_cons_zero, List.set_cons_succ]
  refine held_call (i := 21) (o := { dst := some 50, op := Op.call { callee := Callee.value (Operand.func 10), args := #[Operand.tmp 49], argTypes := #[28] }, type := 4, pos := "law.go:18", after := #[{ on := 20, ground := Ground.data }, { on := 19, ground := Ground.chain }, { on := 19, ground := Ground.guard }], guard := some (19, true) }) rfl (by kernel_rfl) (by rfl) (fun K hK => ?_)
  go_simp
  refine (aright_any (ats_two2 (below_row HB.out HT2.out))).mono ?_
  rw [KR2.out]
  rintro e y21 ⟨rfl, hb⟩
  replace HB := Lib.hid (below_then HB.out hb)
  refine hK.out _ _ HB.out ?_
  clear hb hK K
  try simp only [Act.put, List.setIfInBounds_toArray, List.set_cons_zero, List.set_cons_succ]
  refine held_read (i := 22) (o := { dst := some 51, op := Op.unOp UnOp.not 4 (Operand.tmp 50), type := 4, pos := "law.go:18", after := #[{ on := 21, ground := Ground.data }, { on := 19, ground := Ground.guard }], guard := some (19, true) }) (v := ?_) rfl (by kernel_rfl) (by kernel_rfl) (by kernel_rfl) (fun _ _ _ h => h) (by rfl) HB.out ?_ ?_
  rotate_left
  · (intro x hx; have e0 := load_at hx c0; have e1 := load_at hx c1; have e2 := load_at hx c2; have e3 := load_at hx c3; have e4 := load_at hx c4; have e5 := load_at hx c5; have r0 := load_at hx v0; have r1 := load_at hx v1; have r2 := load_at hx v2; have r3 := load_at hx v3; have r4 := load_at hx v4; have r5 := load_at hx k0; go_simp; try with_reducible rfl)
  try simp only [Act.put, List.setIfInBounds_toArray, List.set_cons_zero, List.set_cons_succ]
  refine held_read (i := 23) (o := { dst := some 52, op := Op.pick (Operand.tmp 48) (Operand.tmp 51) (Operand.const (Value.bool false)), type := 4, pos := "law.go:18", after := #[{ on := 19, ground := Ground.data }, { on := 22, ground := Ground.data }], guard := none }) (v := ?_) rfl (by kernel_rfl) (by kernel_rfl) (by kernel_rfl) (fun _ _ _ h => h) (by rfl) HB.out ?_ ?_
  rotate_left
  · (intro x hx; have e0 := load_at hx c0; have e1 := load_at hx c1; have e2 := load_at hx c2; have e3 := load_at hx c3; have e4 := load_at hx c4; have e5 := load_at hx c5; have r0 := load_at hx v0; have r1 := load_at hx v1; have r2 := load_at hx v2; have r3 := load_at hx v3; have r4 := load_at hx v4; have r5 := load_at hx k0; go_simp; try with_reducible rfl)
  try simp only [Act.put, List.setIfInBounds_toArray, List.set_cons_zero, List.set_cons_succ]
  refine held_read (i := 24) (o := { dst := some 53, op := Op.move (Operand.tmp 52), type := 4, pos := "law.go:18", after := #[{ on := 23, ground := Ground.data }, { on := 21, ground := Ground.chain }], guard := none }) (v := ?_) rfl (by kernel_rfl) (by kernel_rfl) (by kernel_rfl) (fun _ _ _ h => h) (by rfl) HB.out ?_ ?_
  rotate_left
  · (intro x hx; have e0 := load_at hx c0; have e1 := load_at hx c1; have e2 := load_at hx c2; have e3 := load_at hx c3; have e4 := load_at hx c4; have e5 := load_at hx c5; have r0 := load_at hx v0; have r1 := load_at hx v1; have r2 := load_at hx v2; have r3 := load_at hx v3; have r4 := load_at hx v4; have r5 := load_at hx k0; go_simp; try with_reducible rfl)
  try simp only [Act.put, List.setIfInBounds_toArray, List.set_cons_zero, List.set_cons_succ]
  refine held_call (i := 25) (o := { dst := some 54, op := Op.call { callee := Callee.value (Operand.func 10), args := #[Operand.const (Value.slice none 0 0)], argTypes := #[28] }, type := 4, pos := "law.go:18", after := #[{ on := 24, ground := Ground.chain }, { on := 24, ground := Ground.guard }], guard := some (24, true) }) rfl (by kernel_rfl) (by rfl) (fun K hK => ?_)
  go_simp
  refine (aright_any (ats_nil _ _)).mono ?_
  rw [KR0.out]
  rintro e y25 ⟨rfl, hb⟩
  replace HB := Lib.hid (below_then HB.out hb)
  refine hK.out _ _ HB.out ?_
  clear hb hK K
  try simp only [Act.put, List.setIfInBounds_toArray, List.set_cons_zero, List.set_cons_succ]
  refine held_read (i := 26) (o := { dst := some 55, op := Op.pick (Operand.tmp 53) (Operand.tmp 54) (Operand.const (Value.bool false)), type := 4, pos := "law.go:18", after := #[{ on := 24, ground := Ground.data }, { on := 25, ground := Ground.data }], guard := none }) (v := ?_) rfl (by kernel_rfl) (by kernel_rfl) (by kernel_rfl) (fun _ _ _ h => h) (by rfl) HB.out ?_ ?_
  rotate_left
  · (intro x hx; have e0 := load_at hx c0; have e1 := load_at hx c1; have e2 := load_at hx c2; have e3 := load_at hx c3; have e4 := load_at hx c4; have e5 := load_at hx c5; have r0 := load_at hx v0; have r1 := load_at hx v1; have r2 := load_at hx v2; have r3 := load_at hx v3; have r4 := load_at hx v4; have r5 := load_at hx k0; go_simp; try with_reducible rfl)
  try simp only [Act.put, List.setIfInBounds_toArray, List.set_cons_zero, List.set_cons_succ]
  refine held_read (i := 27) (o := { dst := some 56, op := Op.move (Operand.tmp 55), type := 4, pos := "law.go:18", after := #[{ on := 26, ground := Ground.data }, { on := 25, ground := Ground.chain }], guard := none }) (v := ?_) rfl (by kernel_rfl) (by kernel_rfl) (by kernel_rfl) (fun _ _ _ h => h) (by rfl) HB.out ?_ ?_
  rotate_left
  · (intro x hx; have e0 := load_at hx c0; have e1 := load_at hx c1; have e2 := load_at hx c2; have e3 := load_at hx c3; have e4 := load_at hx c4; have e5 := load_at hx c5; have r0 := load_at hx v0; have r1 := load_at hx v1; have r2 := load_at hx v2; have r3 := load_at hx v3; have r4 := load_at hx v4; have r5 := load_at hx k0; go_simp; try with_reducible rfl)
  try simp only [Act.put, List.setIfInBounds_toArray, List.set_cons_zero, List.set_cons_succ]
  refine held_call (i := 28) (o := { dst := some 57, op := Op.call { callee := Callee.value (Operand.func 11), args := #[Operand.const (Value.string { data := #[97, 98, 99, 100, 101, 102] })], argTypes := #[9] }, type := 4, pos := "law.go:18", after := #[{ on := 27, ground := Ground.chain }, { on := 27, ground := Ground.guard }], guard := some (27, true) }) rfl (by kernel_rfl) (by rfl) (fun K hK => ?_)
  go_simp
  refine (word_any _ (by decide) _).mono ?_
  rw [KW1.out]
  rintro e w' ⟨rfl, rfl⟩
  refine hK.out _ _ HB.out ?_
  clear hK K
  try simp only [Act.put, List.setIfInBounds_toArray, List.set_cons_zero, List.set_cons_succ]
  refine held_read (i := 29) (o := { dst := some 58, op := Op.pick (Operand.tmp 56) (Operand.tmp 57) (Operand.const (Value.bool false)), type := 4, pos := "law.go:18", after := #[{ on := 27, ground := Ground.data }, { on := 28, ground := Ground.data }], guard := none }) (v := ?_) rfl (by kernel_rfl) (by kernel_rfl) (by kernel_rfl) (fun _ _ _ h => h) (by rfl) HB.out ?_ ?_
  rotate_left
  · (intro x hx; have e0 := load_at hx c0; have e1 := load_at hx c1; have e2 := load_at hx c2; have e3 := load_at hx c3; have e4 := load_at hx c4; have e5 := load_at hx c5; have r0 := load_at hx v0; have r1 := load_at hx v1; have r2 := load_at hx v2; have r3 := load_at hx v3; have r4 := load_at hx v4; have r5 := load_at hx k0; go_simp; try with_reducible rfl)
  try simp only [Act.put, List.setIfInBounds_toArray, List.set_cons_zero, List.set_cons_succ]
  refine held_read (i := 30) (o := { dst := some 59, op := Op.move (Operand.tmp 58), type := 4, pos := "law.go:18", after := #[{ on := 29, ground := Ground.data }, { on := 28, ground := Ground.chain }], guard := none }) (v := ?_) rfl (by kernel_rfl) (by kernel_rfl) (by kernel_rfl) (fun _ _ _ h => h) (by rfl) HB.out ?_ ?_
  rotate_left
  · (intro x hx; have e0 := load_at hx c0; have e1 := load_at hx c1; have e2 := load_at hx c2; have e3 := load_at hx c3; have e4 := load_at hx c4; have e5 := load_at hx c5; have r0 := load_at hx v0; have r1 := load_at hx v1; have r2 := load_at hx v2; have r3 := load_at hx v3; have r4 := load_at hx v4; have r5 := load_at hx k0; go_simp; try with_reducible rfl)
  try simp only [Act.put, List.setIfInBounds_toArray, List.set_cons_zero, List.set_cons_succ]
  refine held_call (i := 31) (o := { dst := some 60, op := Op.call { callee := Callee.value (Operand.func 11), args := #[Operand.const (Value.string { data := #[97, 98, 99, 100, 101, 102, 103] })], argTypes := #[9] }, type := 4, pos := "law.go:18", after := #[{ on := 30, ground := Ground.chain }, { on := 30, ground := Ground.guard }], guard := some (30, true) }) rfl (by kernel_rfl) (by rfl) (fun K hK => ?_)
  go_simp
  refine (word_any _ (by decide) _).mono ?_
  rw [KW2.out]
  rintro e w' ⟨rfl, rfl⟩
  refine hK.out _ _ HB.out ?_
  clear hK K
  try simp only [Act.put, List.setIfInBounds_toArray, List.set_cons_zero, List.set_cons_succ]
  refine held_read (i := 32) (o := { dst := some 61, op := Op.unOp UnOp.not 4 (Operand.tmp 60), type := 4, pos := "law.go:18", after := #[{ on := 31, ground := Ground.data }, { on := 30, ground := Ground.guard }], guard := some (30, true) }) (v := ?_) rfl (by kernel_rfl) (by kernel_rfl) (by kernel_rfl) (fun _ _ _ h => h) (by rfl) HB.out ?_ ?_
  rotate_left
  · (intro x hx; have e0 := load_at hx c0; have e1 := load_at hx c1; have e2 := load_at hx c2; have e3 := load_at hx c3; have e4 := load_at hx c4; have e5 := load_at hx c5; have r0 := load_at hx v0; have r1 := load_at hx v1; have r2 := load_at hx v2; have r3 := load_at hx v3; have r4 := load_at hx v4; have r5 := load_at hx k0; go_simp; try with_reducible rfl)
  try simp only [Act.put, List.setIfInBounds_toArray, List.set_cons_zero, List.set_cons_succ]
  refine held_read (i := 33) (o := { dst := some 62, op := Op.pick (Operand.tmp 59) (Operand.tmp 61) (Operand.const (Value.bool false)), type := 4, pos := "law.go:18", after := #[{ on := 30, ground := Ground.data }, { on := 32, ground := Ground.data }], guard := none }) (v := ?_) rfl (by kernel_rfl) (by kernel_rfl) (by kernel_rfl) (fun _ _ _ h => h) (by rfl) HB.out ?_ ?_
  rotate_left
  · (intro x hx; have e0 := load_at hx c0; have e1 := load_at hx c1; have e2 := load_at hx c2; have e3 := load_at hx c3; have e4 := load_at hx c4; have e5 := load_at hx c5; have r0 := load_at hx v0; have r1 := load_at hx v1; have r2 := load_at hx v2; have r3 := load_at hx v3; have r4 := load_at hx v4; have r5 := load_at hx k0; go_simp; try with_reducible rfl)
  try simp only [Act.put, List.setIfInBounds_toArray, List.set_cons_zero, List.set_cons_succ]
  refine held_read (i := 34) (o := { dst := some 63, op := Op.move (Operand.tmp 62), type := 4, pos := "law.go:18", after := #[{ on := 33, ground := Ground.data }, { on := 31, ground := Ground.chain }], guard := none }) (v := ?_) rfl (by kernel_rfl) (by kernel_rfl) (by kernel_rfl) (fun _ _ _ h => h) (by rfl) HB.out ?_ ?_
  rotate_left
  · (intro x hx; have e0 := load_at hx c0; have e1 := load_at hx c1; have e2 := load_at hx c2; have e3 := load_at hx c3; have e4 := load_at hx c4; have e5 := load_at hx c5; have r0 := load_at hx v0; have r1 := load_at hx v1; have r2 := load_at hx v2; have r3 := load_at hx v3; have r4 := load_at hx v4; have r5 := load_at hx k0; go_simp; try with_reducible rfl)
  try simp only [Act.put, List.setIfInBounds_toArray, List.set_cons_zero, List.set_cons_succ]
  refine held_call (i := 35) (o := { dst := some 64, op := Op.call { callee := Callee.value (Operand.func 11), args := #[Operand.const (Value.string { data := #[] })], argTypes := #[9] }, type := 4, pos := "law.go:18", after := #[{ on := 34, ground := Ground.chain }, { on := 34, ground := Ground.guard }], guard := some (34, true) }) rfl (by kernel_rfl) (by rfl) (fun K hK => ?_)
  go_simp
  refine (word_any _ (by decide) _).mono ?_
  rw [KW3.out]
  rintro e w' ⟨rfl, rfl⟩
  refine hK.out _ _ HB.out ?_
  clear hK K
  try simp only [Act.put, List.setIfInBounds_toArray, List.set_cons_zero, List.set_cons_succ]
  refine held_read (i := 36) (o := { dst := some 65, op := Op.unOp UnOp.not 4 (Operand.tmp 64), type := 4, pos := "law.go:18", after := #[{ on := 35, ground := Ground.data }, { on := 34, ground := Ground.guard }], guard := some (34, true) }) (v := ?_) rfl (by kernel_rfl) (by kernel_rfl) (by kernel_rfl) (fun _ _ _ h => h) (by rfl) HB.out ?_ ?_
  rotate_left
  · (intro x hx; have e0 := load_at hx c0; have e1 := load_at hx c1; have e2 := load_at hx c2; have e3 := load_at hx c3; have e4 := load_at hx c4; have e5 := load_at hx c5; have r0 := load_at hx v0; have r1 := load_at hx v1; have r2 := load_at hx v2; have r3 := load_at hx v3; have r4 := load_at hx v4; have r5 := load_at hx k0; go_simp; try with_reducible rfl)
  try simp only [Act.put, List.setIfInBounds_toArray, List.set_cons_zero, List.set_cons_succ]
  refine held_read (i := 37) (o := { dst := some 66, op := Op.pick (Operand.tmp 63) (Operand.tmp 65) (Operand.const (Value.bool false)), type := 4, pos := "law.go:18", after := #[{ on := 34, ground := Ground.data }, { on := 36, ground := Ground.data }], guard := none }) (v := ?_) rfl (by kernel_rfl) (by kernel_rfl) (by kernel_rfl) (fun _ _ _ h => h) (by rfl) HB.out ?_ ?_
  rotate_left
  · (intro x hx; have e0 := load_at hx c0; have e1 := load_at hx c1; have e2 := load_at hx c2; have e3 := load_at hx c3; have e4 := load_at hx c4; have e5 := load_at hx c5; have r0 := load_at hx v0; have r1 := load_at hx v1; have r2 := load_at hx v2; have r3 := load_at hx v3; have r4 := load_at hx v4; have r5 := load_at hx k0; go_simp; try with_reducible rfl)
  try simp only [Act.put, List.setIfInBounds_toArray, List.set_cons_zero, List.set_cons_succ]
  refine held_read (i := 38) (o := { dst := some 67, op := Op.move (Operand.tmp 66), type := 4, pos := "law.go:18", after := #[{ on := 37, ground := Ground.data }, { on := 35, ground := Ground.chain }], guard := none }) (v := ?_) rfl (by kernel_rfl) (by kernel_rfl) (by kernel_rfl) (fun _ _ _ h => h) (by rfl) HB.out ?_ ?_
  rotate_left
  · (intro x hx; have e0 := load_at hx c0; have e1 := load_at hx c1; have e2 := load_at hx c2; have e3 := load_at hx c3; have e4 := load_at hx c4; have e5 := load_at hx c5; have r0 := load_at hx v0; have r1 := load_at hx v1; have r2 := load_at hx v2; have r3 := load_at hx v3; have r4 := load_at hx v4; have r5 := load_at hx k0; go_simp; try with_reducible rfl)
  try simp only [Act.put, List.setIfInBounds_toArray, List.set_cons_zero, List.set_cons_succ]
  refine held_call (i := 39) (o := { dst := some 68, op := Op.call { callee := Callee.value (Operand.func 11), args := #[Operand.const (Value.string { data := #[97, 49] })], argTypes := #[9] }, type := 4, pos := "law.go:18", after := #[{ on := 38, ground := Ground.chain }, { on := 38, ground := Ground.guard }], guard := some (38, true) }) rfl (by kernel_rfl) (by rfl) (fun K hK => ?_)
  go_simp
  refine (word_any _ (by decide) _).mono ?_
  rw [KW4.out]
  rintro e w' ⟨rfl, rfl⟩
  refine hK.out _ _ HB.out ?_
  clear hK K
  try simp only [Act.put, List.setIfInBounds_toArray, List.set_cons_zero, List.set_cons_succ]
  refine held_read (i := 40) (o := { dst := some 69, op := Op.unOp UnOp.not 4 (Operand.tmp 68), type := 4, pos := "law.go:18", after := #[{ on := 39, ground := Ground.data }, { on := 38, ground := Ground.guard }], guard := some (38, true) }) (v := ?_) rfl (by kernel_rfl) (by kernel_rfl) (by kernel_rfl) (fun _ _ _ h => h) (by rfl) HB.out ?_ ?_
  rotate_left
  · (intro x hx; have e0 := load_at hx c0; have e1 := load_at hx c1; have e2 := load_at hx c2; have e3 := load_at hx c3; have e4 := load_at hx c4; have e5 := load_at hx c5; have r0 := load_at hx v0; have r1 := load_at hx v1; have r2 := load_at hx v2; have r3 := load_at hx v3; have r4 := load_at hx v4; have r5 := load_at hx k0; go_simp; try with_reducible rfl)
  try simp only [Act.put, List.setIfInBounds_toArray, List.set_cons_zero, List.set_cons_succ]
  refine held_read (i := 41) (o := { dst := some 70, op := Op.pick (Operand.tmp 67) (Operand.tmp 69) (Operand.const (Value.bool false)), type := 4, pos := "law.go:18", after := #[{ on := 38, ground := Ground.data }, { on := 40, ground := Ground.data }], guard := none }) (v := ?_) rfl (by kernel_rfl) (by kernel_rfl) (by kernel_rfl) (fun _ _ _ h => h) (by rfl) HB.out ?_ ?_
  rotate_left
  · (intro x hx; have e0 := load_at hx c0; have e1 := load_at hx c1; have e2 := load_at hx c2; have e3 := load_at hx c3; have e4 := load_at hx c4; have e5 := load_at hx c5; have r0 := load_at hx v0; have r1 := load_at hx v1; have r2 := load_at hx v2; have r3 := load_at hx v3; have r4 := load_at hx v4; have r5 := load_at hx k0; go_simp; try with_reducible rfl)
  try simp only [Act.put, List.setIfInBounds_toArray, List.set_cons_zero, List.set_cons_succ]
  refine held_read (i := 42) (o := { dst := some 71, op := Op.move (Operand.tmp 70), type := 4, pos := "law.go:18", after := #[{ on := 41, ground := Ground.data }, { on := 39, ground := Ground.chain }], guard := none }) (v := ?_) rfl (by kernel_rfl) (by kernel_rfl) (by kernel_rfl) (fun _ _ _ h => h) (by rfl) HB.out ?_ ?_
  rotate_left
  · (intro x hx; have e0 := load_at hx c0; have e1 := load_at hx c1; have e2 := load_at hx c2; have e3 := load_at hx c3; have e4 := load_at hx c4; have e5 := load_at hx c5; have r0 := load_at hx v0; have r1 := load_at hx v1; have r2 := load_at hx v2; have r3 := load_at hx v3; have r4 := load_at hx v4; have r5 := load_at hx k0; go_simp; try with_reducible rfl)
  try simp only [Act.put, List.setIfInBounds_toArray, List.set_cons_zero, List.set_cons_succ]
  refine held_read (i := 43) (o := { dst := some 72, op := Op.move (Operand.tmp 1), type := 28, pos := "law.go:18", after := #[{ on := 42, ground := Ground.guard }], guard := some (42, true) }) (v := ?_) rfl (by kernel_rfl) (by kernel_rfl) (by kernel_rfl) (fun _ _ _ h => h) (by rfl) HB.out ?_ ?_
  rotate_left
  · (intro x hx; have e0 := load_at hx c0; have e1 := load_at hx c1; have e2 := load_at hx c2; have e3 := load_at hx c3; have e4 := load_at hx c4; have e5 := load_at hx c5; have r0 := load_at hx v0; have r1 := load_at hx v1; have r2 := load_at hx v2; have r3 := load_at hx v3; have r4 := load_at hx v4; have r5 := load_at hx k0; go_simp; try with_reducible rfl)
  try simp only [Act.put, List.setIfInBounds_toArray, List.set_cons_zero, List.set_cons_succ]
  refine held_read (i := 44) (o := { dst := some 73, op := Op.move (Operand.tmp 6), type := 28, pos := "law.go:18", after := #[{ on := 42, ground := Ground.guard }], guard := some (42, true) }) (v := ?_) rfl (by kernel_rfl) (by kernel_rfl) (by kernel_rfl) (fun _ _ _ h => h) (by rfl) HB.out ?_ ?_
  rotate_left
  · (intro x hx; have e0 := load_at hx c0; have e1 := load_at hx c1; have e2 := load_at hx c2; have e3 := load_at hx c3; have e4 := load_at hx c4; have e5 := load_at hx c5; have r0 := load_at hx v0; have r1 := load_at hx v1; have r2 := load_at hx v2; have r3 := load_at hx v3; have r4 := load_at hx v4; have r5 := load_at hx k0; go_simp; try with_reducible rfl)
  try simp only [Act.put, List.setIfInBounds_toArray, List.set_cons_zero, List.set_cons_succ]
  refine held_call (i := 45) (o := { dst := some 74, op := Op.call { callee := Callee.value (Operand.func 12), args := #[Operand.tmp 72, Operand.tmp 73], argTypes := #[28, 28] }, type := 4, pos := "law.go:18", after := #[{ on := 43, ground := Ground.data }, { on := 44, ground := Ground.data }, { on := 42, ground := Ground.chain }, { on := 42, ground := Ground.guard }], guard := some (42, true) }) rfl (by kernel_rfl) (by rfl) (fun K hK => ?_)
  go_simp
  refine (asame_any (ats_two1 (below_row HB.out HT.out)) (ats_two2 (below_row HB.out HT2.out))).mono ?_
  rw [KS2.out]
  rintro e y45 ⟨rfl, hb⟩
  replace HB := Lib.hid (below_then HB.out hb)
  refine hK.out _ _ HB.out ?_
  clear hb hK K
  try simp only [Act.put, List.setIfInBounds_toArray, List.set_cons_zero, List.set_cons_succ]
  refine held_read (i := 46) (o := { dst := some 75, op := Op.unOp UnOp.not 4 (Operand.tmp 74), type := 4, pos := "law.go:18", after := #[{ on := 45, ground := Ground.data }, { on := 42, ground := Ground.guard }], guard := some (42, true) }) (v := ?_) rfl (by kernel_rfl) (by kernel_rfl) (by kernel_rfl) (fun _ _ _ h => h) (by rfl) HB.out ?_ ?_
  rotate_left
  · (intro x hx; have e0 := load_at hx c0; have e1 := load_at hx c1; have e2 := load_at hx c2; have e3 := load_at hx c3; have e4 := load_at hx c4; have e5 := load_at hx c5; have r0 := load_at hx v0; have r1 := load_at hx v1; have r2 := load_at hx v2; have r3 := load_at hx v3; have r4 := load_at hx v4; have r5 := load_at hx k0; go_simp; try with_reducible rfl)
  try simp only [Act.put, List.setIfInBounds_toArray, List.set_cons_zero, List.set_cons_succ]
  refine held_read (i := 47) (o := { dst := some 76, op := Op.pick (Operand.tmp 71) (Operand.tmp 75) (Operand.const (Value.bool false)), type := 4, pos := "law.go:18", after := #[{ on := 42, ground := Ground.data }, { on := 46, ground := Ground.data }], guard := none }) (v := ?_) rfl (by kernel_rfl) (by kernel_rfl) (by kernel_rfl) (fun _ _ _ h => h) (by rfl) HB.out ?_ ?_
  rotate_left
  · (intro x hx; have e0 := load_at hx c0; have e1 := load_at hx c1; have e2 := load_at hx c2; have e3 := load_at hx c3; have e4 := load_at hx c4; have e5 := load_at hx c5; have r0 := load_at hx v0; have r1 := load_at hx v1; have r2 := load_at hx v2; have r3 := load_at hx v3; have r4 := load_at hx v4; have r5 := load_at hx k0; go_simp; try with_reducible rfl)
  try simp only [Act.put, List.setIfInBounds_toArray, List.set_cons_zero, List.set_cons_succ]
  refine held_read (i := 48) (o := { dst := some 77, op := Op.move (Operand.tmp 76), type := 4, pos := "law.go:18", after := #[{ on := 47, ground := Ground.data }, { on := 45, ground := Ground.chain }], guard := none }) (v := ?_) rfl (by kernel_rfl) (by kernel_rfl) (by kernel_rfl) (fun _ _ _ h => h) (by rfl) HB.out ?_ ?_
  rotate_left
  · (intro x hx; have e0 := load_at hx c0; have e1 := load_at hx c1; have e2 := load_at hx c2; have e3 := load_at hx c3; have e4 := load_at hx c4; have e5 := load_at hx c5; have r0 := load_at hx v0; have r1 := load_at hx v1; have r2 := load_at hx v2; have r3 := load_at hx v3; have r4 := load_at hx v4; have r5 := load_at hx k0; go_simp; try with_reducible rfl)
  try simp only [Act.put, List.setIfInBounds_toArray, List.set_cons_zero, List.set_cons_succ]
  refine held_read (i := 49) (o := { dst := some 78, op := Op.move (Operand.tmp 1), type := 28, pos := "law.go:18", after := #[{ on := 48, ground := Ground.guard }], guard := some (48, true) }) (v := ?_) rfl (by kernel_rfl) (by kernel_rfl) (by kernel_rfl) (fun _ _ _ h => h) (by rfl) HB.out ?_ ?_
  rotate_left
  · (intro x hx; have e0 := load_at hx c0; have e1 := load_at hx c1; have e2 := load_at hx c2; have e3 := load_at hx c3; have e4 := load_at hx c4; have e5 := load_at hx c5; have r0 := load_at hx v0; have r1 := load_at hx v1; have r2 := load_at hx v2; have r3 := load_at hx v3; have r4 := load_at hx v4; have r5 := load_at hx k0; go_simp; try with_reducible rfl)
  try simp only [Act.put, List.setIfInBounds_toArray, List.set_cons_zero, List.set_cons_succ]
  refine held_read (i := 51) (o := { dst := some 80, op := Op.move (Operand.tmp 1), type := 28, pos := "law.go:18", after := #[{ on := 48, ground := Ground.guard }], guard := some (48, true) }) (v := ?_) rfl (by kernel_rfl) (by kernel_rfl) (by kernel_rfl) (fun _ _ _ h => h) (by rfl) HB.out ?_ ?_
  rotate_left
  · (intro x hx; have e0 := load_at hx c0; have e1 := load_at hx c1; have e2 := load_at hx c2; have e3 := load_at hx c3; have e4 := load_at hx c4; have e5 := load_at hx c5; have r0 := load_at hx v0; have r1 := load_at hx v1; have r2 := load_at hx v2; have r3 := load_at hx v3; have r4 := load_at hx v4; have r5 := load_at hx k0; go_simp; try with_reducible rfl)
  try simp only [Act.put, List.setIfInBounds_toArray, List.set_cons_zero, List.set_cons_succ]
  refine held_call (i := 50) (o := { dst := some 79, op := Op.call { callee := Callee.value (Operand.func 13), args := #[Operand.tmp 78], argTypes := #[28] }, type := 28, pos := "law.go:18", after := #[{ on := 49, ground := Ground.data }, { on := 48, ground := Ground.chain }, { on := 48, ground := Ground.guard }], guard := some (48, true) }) rfl (by kernel_rfl) (by rfl) (fun K hK => ?_)
  go_simp
  refine (copy_any (ats_two1 (below_row HB.out HT.out)) (by omega)).mono ?_
  rintro e y50 ⟨rfl, hr, hb⟩
  have HC : Hid (y50.heap[y45.heap.size]? = some two1) := hr
  replace HB := Lib.hid (below_then HB.out hb)
  refine hK.out _ _ HB.out ?_
  clear hb hr hK K
  generalize y45.heap.size = g3 at HC ⊢
  try simp only [Act.put, List.setIfInBounds_toArray, List.set_cons_zero, List.set_cons_succ]
  refine held_call (i := 52) (o := { dst := some 81, op := Op.call { callee := Callee.value (Operand.func 12), args := #[Operand.tmp 79, Operand.tmp 80], argTypes := #[28, 28] }, type := 4, pos := "law.go:18", after := #[{ on := 50, ground := Ground.data }, { on := 51, ground := Ground.data }, { on := 50, ground := Ground.chain }, { on := 48, ground := Ground.guard }], guard := some (48, true) }) rfl (by kernel_rfl) (by rfl) (fun K hK => ?_)
  go_simp
  refine (asame_any (ats_two1 HC.out) (ats_two1 (below_row HB.out HT.out))).mono ?_
  rw [KS1.out]
  rintro e y52 ⟨rfl, hb⟩
  replace HB := Lib.hid (below_then HB.out hb)
  refine hK.out _ _ HB.out ?_
  clear hb hK K
  try simp only [Act.put, List.setIfInBounds_toArray, List.set_cons_zero, List.set_cons_succ]
  refine held_read (i := 53) (o := { dst := some 82, op := Op.pick (Operand.tmp 77) (Operand.tmp 81) (Operand.const (Value.bool false)), type := 4, pos := "law.go:18", after := #[{ on := 48, ground := Ground.data }, { on := 52, ground := Ground.data }], guard := none }) (v := ?_) rfl (by kernel_rfl) (by kernel_rfl) (by kernel_rfl) (fun _ _ _ h => h) (by rfl) HB.out ?_ ?_
  rotate_left
  · (intro x hx; have e0 := load_at hx c0; have e1 := load_at hx c1; have e2 := load_at hx c2; have e3 := load_at hx c3; have e4 := load_at hx c4; have e5 := load_at hx c5; have r0 := load_at hx v0; have r1 := load_at hx v1; have r2 := load_at hx v2; have r3 := load_at hx v3; have r4 := load_at hx v4; have r5 := load_at hx k0; go_simp; try with_reducible rfl)
  try simp only [Act.put, List.setIfInBounds_toArray, List.set_cons_zero, List.set_cons_succ]
  refine held_read (i := 54) (o := { dst := some 83, op := Op.move (Operand.tmp 82), type := 4, pos := "law.go:18", after := #[{ on := 53, ground := Ground.data }, { on := 52, ground := Ground.chain }], guard := none }) (v := ?_) rfl (by kernel_rfl) (by kernel_rfl) (by kernel_rfl) (fun _ _ _ h => h) (by rfl) HB.out ?_ ?_
  rotate_left
  · (intro x hx; have e0 := load_at hx c0; have e1 := load_at hx c1; have e2 := load_at hx c2; have e3 := load_at hx c3; have e4 := load_at hx c4; have e5 := load_at hx c5; have r0 := load_at hx v0; have r1 := load_at hx v1; have r2 := load_at hx v2; have r3 := load_at hx v3; have r4 := load_at hx v4; have r5 := load_at hx k0; go_simp; try with_reducible rfl)
  try simp only [Act.put, List.setIfInBounds_toArray, List.set_cons_zero, List.set_cons_succ]
  refine held_read (i := 55) (o := { dst := some 84, op := Op.move (Operand.tmp 1), type := 28, pos := "law.go:18", after := #[{ on := 54, ground := Ground.guard }], guard := some (54, true) }) (v := ?_) rfl (by kernel_rfl) (by kernel_rfl) (by kernel_rfl) (fun _ _ _ h => h) (by rfl) HB.out ?_ ?_
  rotate_left
  · (intro x hx; have e0 := load_at hx c0; have e1 := load_at hx c1; have e2 := load_at hx c2; have e3 := load_at hx c3; have e4 := load_at hx c4; have e5 := load_at hx c5; have r0 := load_at hx v0; have r1 := load_at hx v1; have r2 := load_at hx v2; have r3 := load_at hx v3; have r4 := load_at hx v4; have r5 := load_at hx k0; go_simp; try with_reducible rfl)
  try simp only [Act.put, List.setIfInBounds_toArray, List.set_cons_zero, List.set_cons_succ]
  refine held_read (i := 56) (o := { dst := some 85, op := Op.indexAddr 28 (Operand.tmp 84) (Operand.const (Value.int IntKind.i64 0)), type := 0, pos := "law.go:18", after := #[{ on := 55, ground := Ground.data }, { on := 54, ground := Ground.guard }], guard := some (54, true) }) (v := ?_) rfl (by kernel_rfl) (by kernel_rfl) (by kernel_rfl) (fun _ _ _ h => h) (by rfl) HB.out ?_ ?_
  rotate_left
  · (intro x hx; have e0 := load_at hx c0; have e1 := load_at hx c1; have e2 := load_at hx c2; have e3 := load_at hx c3; have e4 := load_at hx c4; have e5 := load_at hx c5; have r0 := load_at hx v0; have r1 := load_at hx v1; have r2 := load_at hx v2; have r3 := load_at hx v3; have r4 := load_at hx v4; have r5 := load_at hx k0; go_simp; try with_reducible rfl)
  try simp only [Act.put, List.setIfInBounds_toArray, List.set_cons_zero, List.set_cons_succ]
  refine held_read (i := 57) (o := { dst := some 86, op := Op.load 27 (Operand.tmp 85), type := 27, pos := "law.go:18", after := #[{ on := 56, ground := Ground.data }, { on := 54, ground := Ground.guard }], guard := some (54, true) }) (v := ?_) rfl (by kernel_rfl) (by kernel_rfl) (by kernel_rfl) (fun _ _ _ h => h) (by rfl) HB.out ?_ ?_
  rotate_left
  · (intro x hx; have e0 := load_at hx c0; have e1 := load_at hx c1; have e2 := load_at hx c2; have e3 := load_at hx c3; have e4 := load_at hx c4; have e5 := load_at hx c5; have r0 := load_at hx v0; have r1 := load_at hx v1; have r2 := load_at hx v2; have r3 := load_at hx v3; have r4 := load_at hx v4; have r5 := load_at hx k0; go_simp; try with_reducible rfl)
  try simp only [Act.put, List.setIfInBounds_toArray, List.set_cons_zero, List.set_cons_succ]
  refine held_read (i := 58) (o := { dst := some 87, op := Op.move (Operand.tmp 1), type := 28, pos := "law.go:18", after := #[{ on := 54, ground := Ground.guard }], guard := some (54, true) }) (v := ?_) rfl (by kernel_rfl) (by kernel_rfl) (by kernel_rfl) (fun _ _ _ h => h) (by rfl) HB.out ?_ ?_
  rotate_left
  · (intro x hx; have e0 := load_at hx c0; have e1 := load_at hx c1; have e2 := load_at hx c2; have e3 := load_at hx c3; have e4 := load_at hx c4; have e5 := load_at hx c5; have r0 := load_at hx v0; have r1 := load_at hx v1; have r2 := load_at hx v2; have r3 := load_at hx v3; have r4 := load_at hx v4; have r5 := load_at hx k0; go_simp; try with_reducible rfl)
  try simp only [Act.put, List.setIfInBounds_toArray, List.set_cons_zero, List.set_cons_succ]
  refine held_read (i := 59) (o := { dst := some 88, op := Op.indexAddr 28 (Operand.tmp 87) (Operand.const (Value.int IntKind.i64 0)), type := 0, pos := "law.go:18", after := #[{ on := 58, ground := Ground.data }, { on := 54, ground := Ground.guard }], guard := some (54, true) }) (v := ?_) rfl (by kernel_rfl) (by kernel_rfl) (by kernel_rfl) (fun _ _ _ h => h) (by rfl) HB.out ?_ ?_
  rotate_left
  · (intro x hx; have e0 := load_at hx c0; have e1 := load_at hx c1; have e2 := load_at hx c2; have e3 := load_at hx c3; have e4 := load_at hx c4; have e5 := load_at hx c5; have r0 := load_at hx v0; have r1 := load_at hx v1; have r2 := load_at hx v2; have r3 := load_at hx v3; have r4 := load_at hx v4; have r5 := load_at hx k0; go_simp; try with_reducible rfl)
  try simp only [Act.put, List.setIfInBounds_toArray, List.set_cons_zero, List.set_cons_succ]
  refine held_read (i := 60) (o := { dst := some 89, op := Op.load 27 (Operand.tmp 88), type := 27, pos := "law.go:18", after := #[{ on := 59, ground := Ground.data }, { on := 54, ground := Ground.guard }], guard := some (54, true) }) (v := ?_) rfl (by kernel_rfl) (by kernel_rfl) (by kernel_rfl) (fun _ _ _ h => h) (by rfl) HB.out ?_ ?_
  rotate_left
  · (intro x hx; have e0 := load_at hx c0; have e1 := load_at hx c1; have e2 := load_at hx c2; have e3 := load_at hx c3; have e4 := load_at hx c4; have e5 := load_at hx c5; have r0 := load_at hx v0; have r1 := load_at hx v1; have r2 := load_at hx v2; have r3 := load_at hx v3; have r4 := load_at hx v4; have r5 := load_at hx k0; go_simp; try with_reducible rfl)
  try simp only [Act.put, List.setIfInBounds_toArray, List.set_cons_zero, List.set_cons_succ]
  refine held_call (i := 61) (o := { dst := some 90, op := Op.buildSlice 28 2 #[(0, Operand.tmp 86), (1, Operand.tmp 89)], type := 28, pos := "law.go:18", after := #[{ on := 57, ground := Ground.data }, { on := 60, ground := Ground.data }, { on := 54, ground := Ground.guard }], guard := some (54, true) }) rfl (by kernel_rfl) (by rfl) (fun K hK => ?_)
  go_simp
  have hn := one_new y52 two3
  have HT3 : Hid ((y52.alloc two3).heap[y52.heap.size]? = some two3) := heap_alloc_new _ _
  replace HB := Lib.hid (below_then HB.out hn)
  refine hK.out _ _ HB.out ?_
  clear hn hK K
  generalize y52.alloc (.cells #[.string ⟨#[97]⟩, .int .i64 1, .int .i64 2, .float .f64 0, .string ⟨#[]⟩, .bool false, .string ⟨#[97]⟩, .int .i64 1, .int .i64 2, .float .f64 0, .string ⟨#[]⟩, .bool false] 27) = y61 at HB HT3 ⊢
  generalize y52.heap.size = g4 at HT3 ⊢
  try simp only [Act.put, List.setIfInBounds_toArray, List.set_cons_zero, List.set_cons_succ]
  refine held_call (i := 62) (o := { dst := some 91, op := Op.call { callee := Callee.value (Operand.func 10), args := #[Operand.tmp 90], argTypes := #[28] }, type := 4, pos := "law.go:18", after := #[{ on := 61, ground := Ground.data }, { on := 54, ground := Ground.chain }, { on := 54, ground := Ground.guard }], guard := some (54, true) }) rfl (by kernel_rfl) (by rfl) (fun K hK => ?_)
  go_simp
  refine (aright_any (ats_two3 HT3.out)).mono ?_
  rw [KR3.out]
  rintro e y62 ⟨rfl, hb⟩
  replace HB := Lib.hid (below_then HB.out hb)
  refine hK.out _ _ HB.out ?_
  clear hb hK K
  try simp only [Act.put, List.setIfInBounds_toArray, List.set_cons_zero, List.set_cons_succ]
  refine held_read (i := 63) (o := { dst := some 92, op := Op.unOp UnOp.not 4 (Operand.tmp 91), type := 4, pos := "law.go:18", after := #[{ on := 62, ground := Ground.data }, { on := 54, ground := Ground.guard }], guard := some (54, true) }) (v := ?_) rfl (by kernel_rfl) (by kernel_rfl) (by kernel_rfl) (fun _ _ _ h => h) (by rfl) HB.out ?_ ?_
  rotate_left
  · (intro x hx; have e0 := load_at hx c0; have e1 := load_at hx c1; have e2 := load_at hx c2; have e3 := load_at hx c3; have e4 := load_at hx c4; have e5 := load_at hx c5; have r0 := load_at hx v0; have r1 := load_at hx v1; have r2 := load_at hx v2; have r3 := load_at hx v3; have r4 := load_at hx v4; have r5 := load_at hx k0; go_simp; try with_reducible rfl)
  try simp only [Act.put, List.setIfInBounds_toArray, List.set_cons_zero, List.set_cons_succ]
  refine held_read (i := 64) (o := { dst := some 93, op := Op.pick (Operand.tmp 83) (Operand.tmp 92) (Operand.const (Value.bool false)), type := 4, pos := "law.go:18", after := #[{ on := 54, ground := Ground.data }, { on := 63, ground := Ground.data }], guard := none }) (v := ?_) rfl (by kernel_rfl) (by kernel_rfl) (by kernel_rfl) (fun _ _ _ h => h) (by rfl) HB.out ?_ ?_
  rotate_left
  · (intro x hx; have e0 := load_at hx c0; have e1 := load_at hx c1; have e2 := load_at hx c2; have e3 := load_at hx c3; have e4 := load_at hx c4; have e5 := load_at hx c5; have r0 := load_at hx v0; have r1 := load_at hx v1; have r2 := load_at hx v2; have r3 := load_at hx v3; have r4 := load_at hx v4; have r5 := load_at hx k0; go_simp; try with_reducible rfl)
  try simp only [Act.put, List.setIfInBounds_toArray, List.set_cons_zero, List.set_cons_succ]
  refine held_read (i := 65) (o := { dst := some 0, op := Op.assign (Operand.tmp 93), type := 4, pos := "law.go:18", after := ([{ on := 64, ground := Ground.data }, { on := 62, ground := Ground.chain }, { on := 0, ground := Ground.phase }, { on := 1, ground := Ground.phase }, { on := 2, ground := Ground.phase }, { on := 3, ground := Ground.phase }, { on := 4, ground := Ground.phase }, { on := 5, ground := Ground.phase }, { on := 6, ground := Ground.phase }, { on := 7, ground := Ground.phase }, { on := 8, ground := Ground.phase }, { on := 9, ground := Ground.phase }, { on := 10, ground := Ground.phase }, { on := 11, ground := Ground.phase }, { on := 12, ground := Ground.phase }, { on := 13, ground := Ground.phase }, { on := 14, ground := Ground.phase }, { on := 15, ground := Ground.phase }, { on := 16, ground := Ground.phase }, { on := 17, ground := Ground.phase }, { on := 18, ground := Ground.phase }, { on := 19, ground := Ground.phase }, { on := 20, ground := Ground.phase }, { on := 21, ground := Ground.phase }, { on := 22, ground := Ground.phase }, { on := 23, ground := Ground.phase }, { on := 24, ground := Ground.phase }, { on := 25, ground := Ground.phase }, { on := 26, ground := Ground.phase }, { on := 27, ground := Ground.phase }, { on := 28, ground := Ground.phase }, { on := 29, ground := Ground.phase }, { on := 30, ground := Ground.phase }].append [{ on := 31, ground := Ground.phase }, { on := 32, ground := Ground.phase }, { on := 33, ground := Ground.phase }, { on := 34, ground := Ground.phase }, { on := 35, ground := Ground.phase }, { on := 36, ground := Ground.phase }, { on := 37, ground := Ground.phase }, { on := 38, ground := Ground.phase }, { on := 39, ground := Ground.phase }, { on := 40, ground := Ground.phase }, { on := 41, ground := Ground.phase }, { on := 42, ground := Ground.phase }, { on := 43, ground := Ground.phase }, { on := 44, ground := Ground.phase }, { on := 45, ground := Ground.phase }, { on := 46, ground := Ground.phase }, { on := 47, ground := Ground.phase }, { on := 48, ground := Ground.phase }, { on := 49, ground := Ground.phase }, { on := 50, ground := Ground.phase }, { on := 51, ground := Ground.phase }, { on := 52, ground := Ground.phase }, { on := 53, ground := Ground.phase }, { on := 54, ground := Ground.phase }, { on := 55, ground := Ground.phase }, { on := 56, ground := Ground.phase }, { on := 57, ground := Ground.phase }, { on := 58, ground := Ground.phase }, { on := 59, ground := Ground.phase }, { on := 60, ground := Ground.phase }, { on := 61, ground := Ground.phase }, { on := 62, ground := Ground.phase }, { on := 63, ground := Ground.phase }, { on := 64, ground := Ground.phase }]).toArray, guard := none }) (v := ?_) rfl (by kernel_rfl) (by kernel_rfl) (by kernel_rfl) (fun _ _ _ h => h) (by rfl) HB.out ?_ ?_
  rotate_left
  · (intro x hx; have e0 := load_at hx c0; have e1 := load_at hx c1; have e2 := load_at hx c2; have e3 := load_at hx c3; have e4 := load_at hx c4; have e5 := load_at hx c5; have r0 := load_at hx v0; have r1 := load_at hx v1; have r2 := load_at hx v2; have r3 := load_at hx v3; have r4 := load_at hx v4; have r5 := load_at hx k0; go_simp; try with_reducible rfl)
  try simp only [Act.put, List.setIfInBounds_toArray, List.set_cons_zero]
  refine wpAnyH_done (by kernel_rfl) ?_ _
  go_wp2_with fail
  go_ret
  exact ⟨rfl, below_then HB3.out HB.out⟩
end Go.Proofs.Ytbmjpajcoeaacaa
