/-
  No cell of these rows narrows 'for every input' (looked for: loops, veiled, ifaces, maps, wideKeys, modest, calm, conditions, laid).
  DERIVED. THE GIVEN ROWS OF THIS SEAT. 4 by the template 'for every input the law returns true; each argument reads behind the call as it read before'; 0 by the template 'total and deterministic' (their statements: YtegkphbnedbgfaaTotals.lean).
  GIVEN WITH THE SEED: the statements are not yours to turn. If you find one false, say at which input.
  Laid BY PROGRAM, IN A SANDBOX (cutbox-rows.mjs): the forced cells as the released guide's own fill.sh prints them over the translation 646cafbe648cb56f… (all of the seat's roots in one cut). By AI agents, Wed Nov 11 2026. No macro, syntax, notation, axiom, sorry.
-/
import Derived.Test.YtegkphbnedbgfaaChecked
import GoSem.Claim
import GoSem.ClaimJoined
import GoSem.ClaimMapViews
import Derived.JoinedTies
import Derived.KernelRfl
namespace Go.Proofs.Ytegkphbnedbgfaa
/- THE CELL 'sum', in the pinned program and in every row, IS THE sha256 OF THE DUMP (.gsa) THAT YtegkphbnedbgfaaProg.lean LOADS. Nothing in Lean hashes anything: it is a label: what it is worth is what the hold of that sum in a sandbox is worth. -/
noncomputable def Try.pinned : Pinned := { name := "ytegkphbnedbgfaa", sum := "646cafbe648cb56f565d766fd9b4cf27053c19af2f07e912b8074fe15f28cb5e", checked := Try.checked }
namespace Rows
def none {H : Type} : Left H := { results := [], args := [] }

/-- 'precentorlaw10.ConfigKnown': WHATEVER THE INPUT: true; the input reads as it did. -/
def configKnownSpec : ChangeSpec := { name := "configKnown", fn := fun _ => fun
  | [] => { results := [.lit (.bool true)], args := [] }
  | _ => none }
def configKnownRow : OpenClaim := { program := "ytegkphbnedbgfaa", sum := "646cafbe648cb56f565d766fd9b4cf27053c19af2f07e912b8074fe15f28cb5e", func := "precentor/precentorlaw10.ConfigKnown", spec := "configKnown", apart := false }
def ConfigKnownSaid : Prop := configKnownRow.holds Try.pinned (OpenSpec.ofChange configKnownSpec)

/-- ITS FALSE NEIGHBOUR: 'it returns false'. Refute it at one input. -/
def configKnownWrong : ChangeSpec := { name := "configKnown", fn := fun _ => fun
  | [] => { results := [.lit (.bool false)], args := [] }
  | _ => none }
def ConfigKnownWrongFalsely : Prop := configKnownRow.holds Try.pinned (OpenSpec.ofChange configKnownWrong)

/-- 'precentorlaw10.ConfigTells': WHATEVER THE INPUT: true; the input reads as it did. -/
def configTellsSpec : ChangeSpec := { name := "configTells", fn := fun _ => fun
  | [d1, d2, d3, d4] => { results := [.lit (.bool true)], args := [d1, d2, d3, d4] }
  | _ => none }
def configTellsRow : OpenClaim := { program := "ytegkphbnedbgfaa", sum := "646cafbe648cb56f565d766fd9b4cf27053c19af2f07e912b8074fe15f28cb5e", func := "precentor/precentorlaw10.ConfigTells", spec := "configTells", apart := false }
def ConfigTellsSaid : Prop := configTellsRow.holds Try.pinned (OpenSpec.ofChange configTellsSpec)

/-- ITS FALSE NEIGHBOUR: 'it returns false'. Refute it at one input. -/
def configTellsWrong : ChangeSpec := { name := "configTells", fn := fun _ => fun
  | [d1, d2, d3, d4] => { results := [.lit (.bool false)], args := [d1, d2, d3, d4] }
  | _ => none }
def ConfigTellsWrongFalsely : Prop := configTellsRow.holds Try.pinned (OpenSpec.ofChange configTellsWrong)

/-- 'precentorlaw10.ConfigGrows': WHATEVER THE INPUT: true; the input reads as it did. -/
def configGrowsSpec : ChangeSpec := { name := "configGrows", fn := fun _ => fun
  | [d] => { results := [.lit (.bool true)], args := [d] }
  | _ => none }
def configGrowsRow : OpenClaim := { program := "ytegkphbnedbgfaa", sum := "646cafbe648cb56f565d766fd9b4cf27053c19af2f07e912b8074fe15f28cb5e", func := "precentor/precentorlaw10.ConfigGrows", spec := "configGrows", apart := false }
def ConfigGrowsSaid : Prop := configGrowsRow.holds Try.pinned (OpenSpec.ofChange configGrowsSpec)

/-- ITS FALSE NEIGHBOUR: 'it returns false'. Refute it at one input. -/
def configGrowsWrong : ChangeSpec := { name := "configGrows", fn := fun _ => fun
  | [d] => { results := [.lit (.bool false)], args := [d] }
  | _ => none }
def ConfigGrowsWrongFalsely : Prop := configGrowsRow.holds Try.pinned (OpenSpec.ofChange configGrowsWrong)

/-- 'precentorlaw10.ConfigFirst': WHATEVER THE INPUT: true; the input reads as it did. -/
def configFirstSpec : ChangeSpec := { name := "configFirst", fn := fun _ => fun
  | [d1, d2, d3] => { results := [.lit (.bool true)], args := [d1, d2, d3] }
  | _ => none }
def configFirstRow : OpenClaim := { program := "ytegkphbnedbgfaa", sum := "646cafbe648cb56f565d766fd9b4cf27053c19af2f07e912b8074fe15f28cb5e", func := "precentor/precentorlaw10.ConfigFirst", spec := "configFirst", apart := false }
def ConfigFirstSaid : Prop := configFirstRow.holds Try.pinned (OpenSpec.ofChange configFirstSpec)

/-- ITS FALSE NEIGHBOUR: 'it returns false'. Refute it at one input. -/
def configFirstWrong : ChangeSpec := { name := "configFirst", fn := fun _ => fun
  | [d1, d2, d3] => { results := [.lit (.bool false)], args := [d1, d2, d3] }
  | _ => none }
def ConfigFirstWrongFalsely : Prop := configFirstRow.holds Try.pinned (OpenSpec.ofChange configFirstWrong)

/- THE SECOND FORM. 'bulk': how many values and letters a reading holds, each counted each time it is reached (what is shared counts as often as it is met; a slice's spare places count too). A statement '..UptoSaid' is the law's where the arguments, and the package variables that the reading takes, are together of bulk at most 1048576: NARROWER than '..Said'. Prove '..Said' where nothing that the law and all that it calls make is longer than what came in: it says more and counts as full. Else prove '..UptoSaid'. A law counts once. -/
mutual
def uptoBulk {H : Type} : DataW H → Nat
  | .lit (.string bytes) => bytes.length + 1
  | .lit _ => 1
  | .nil => 1
  | .ptr d => uptoBulk d + 1
  | .slice elems spare => uptoBulkAll elems + uptoBulkAll spare + 1
  | .agg parts => uptoBulkAll parts + 1
  | .iface _ d => uptoBulk d + 1
  | .map entries => uptoBulkEntries entries + 1
  | .held _ => 1
def uptoBulkAll {H : Type} : List (DataW H) → Nat
  | [] => 0
  | d :: r => uptoBulk d + uptoBulkAll r
def uptoBulkEntries {H : Type} : List (Lit × DataW H) → Nat
  | [] => 0
  | x :: r => uptoBulkEntry x + uptoBulkEntries r
def uptoBulkEntry {H : Type} : Lit × DataW H → Nat
  | (.string bytes, d) => bytes.length + uptoBulk d + 1
  | (_, d) => uptoBulk d + 1
 end
def uptoSmall : (H : Type) → List (DataW H) → Bool := fun _ ds => decide (uptoBulkAll ds ≤ 1048576)
def OpenSpec.upto (s : _root_.Go.ChangeSpec) : _root_.Go.OpenSpec := { _root_.Go.OpenSpec.ofChange s with cond := some uptoSmall }

/-- 'precentorlaw10.ConfigKnown', WHERE WHAT IT READS IS OF BULK AT MOST 1048576: true; the input reads as it did. -/
def configKnownUptoRow : OpenClaim := { program := "ytegkphbnedbgfaa", sum := "646cafbe648cb56f565d766fd9b4cf27053c19af2f07e912b8074fe15f28cb5e", func := "precentor/precentorlaw10.ConfigKnown", spec := "configKnown", apart := false, narrowed := true }
def ConfigKnownUptoSaid : Prop := configKnownUptoRow.holds Try.pinned (OpenSpec.upto configKnownSpec)

/-- 'precentorlaw10.ConfigTells', WHERE WHAT IT READS IS OF BULK AT MOST 1048576: true; the input reads as it did. -/
def configTellsUptoRow : OpenClaim := { program := "ytegkphbnedbgfaa", sum := "646cafbe648cb56f565d766fd9b4cf27053c19af2f07e912b8074fe15f28cb5e", func := "precentor/precentorlaw10.ConfigTells", spec := "configTells", apart := false, narrowed := true }
def ConfigTellsUptoSaid : Prop := configTellsUptoRow.holds Try.pinned (OpenSpec.upto configTellsSpec)

/-- 'precentorlaw10.ConfigGrows', WHERE WHAT IT READS IS OF BULK AT MOST 1048576: true; the input reads as it did. -/
def configGrowsUptoRow : OpenClaim := { program := "ytegkphbnedbgfaa", sum := "646cafbe648cb56f565d766fd9b4cf27053c19af2f07e912b8074fe15f28cb5e", func := "precentor/precentorlaw10.ConfigGrows", spec := "configGrows", apart := false, narrowed := true }
def ConfigGrowsUptoSaid : Prop := configGrowsUptoRow.holds Try.pinned (OpenSpec.upto configGrowsSpec)

/-- 'precentorlaw10.ConfigFirst', WHERE WHAT IT READS IS OF BULK AT MOST 1048576: true; the input reads as it did. -/
def configFirstUptoRow : OpenClaim := { program := "ytegkphbnedbgfaa", sum := "646cafbe648cb56f565d766fd9b4cf27053c19af2f07e912b8074fe15f28cb5e", func := "precentor/precentorlaw10.ConfigFirst", spec := "configFirst", apart := false, narrowed := true }
def ConfigFirstUptoSaid : Prop := configFirstUptoRow.holds Try.pinned (OpenSpec.upto configFirstSpec)

end Rows
end Go.Proofs.Ytegkphbnedbgfaa
