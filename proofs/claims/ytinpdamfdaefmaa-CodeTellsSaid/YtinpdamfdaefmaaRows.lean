/-
  No cell of these rows narrows 'for every input' (looked for: loops, veiled, ifaces, maps, wideKeys, modest, calm, conditions, laid).
  DERIVED. THE GIVEN ROWS OF THIS SEAT. 5 by the template 'for every input the law returns true; each argument reads behind the call as it read before'; 0 by the template 'total and deterministic' (their statements: YtinpdamfdaefmaaTotals.lean).
  GIVEN WITH THE SEED: the statements are not yours to turn. If you find one false, say at which input.
  Laid BY PROGRAM, IN A SANDBOX (cutbox-rows.mjs): the forced cells as the released guide's own fill.sh prints them over the translation 7c5c1930484a723d… (all of the seat's roots in one cut). By AI agents, Wed Nov 11 2026. No macro, syntax, notation, axiom, sorry.
-/
import Derived.Test.YtinpdamfdaefmaaChecked
import GoSem.Claim
import GoSem.ClaimJoined
import GoSem.ClaimMapViews
import Derived.JoinedTies
import Derived.KernelRfl
namespace Go.Proofs.Ytinpdamfdaefmaa
/- THE CELL 'sum', in the pinned program and in every row, IS THE sha256 OF THE DUMP (.gsa) THAT YtinpdamfdaefmaaProg.lean LOADS. Nothing in Lean hashes anything: it is a label: what it is worth is what the hold of that sum in a sandbox is worth. -/
noncomputable def Try.pinned : Pinned := { name := "ytinpdamfdaefmaa", sum := "7c5c1930484a723d4b10c9c813b8cbc2c4f47fb52826615aa18173b97a3c60c4", checked := Try.checked }
namespace Rows
def none {H : Type} : Left H := { results := [], args := [] }

/-- 'almanackerlaw09.CodeTells': WHATEVER THE INPUT: true; the input reads as it did. -/
def codeTellsSpec : ChangeSpec := { name := "codeTells", fn := fun _ => fun
  | [d] => { results := [.lit (.bool true)], args := [d] }
  | _ => none }
def codeTellsRow : OpenClaim := { program := "ytinpdamfdaefmaa", sum := "7c5c1930484a723d4b10c9c813b8cbc2c4f47fb52826615aa18173b97a3c60c4", func := "almanacker/almanackerlaw09.CodeTells", spec := "codeTells", apart := false }
def CodeTellsSaid : Prop := codeTellsRow.holds Try.pinned (OpenSpec.ofChange codeTellsSpec)

/-- ITS FALSE NEIGHBOUR: 'it returns false'. Refute it at one input. -/
def codeTellsWrong : ChangeSpec := { name := "codeTells", fn := fun _ => fun
  | [d] => { results := [.lit (.bool false)], args := [d] }
  | _ => none }
def CodeTellsWrongFalsely : Prop := codeTellsRow.holds Try.pinned (OpenSpec.ofChange codeTellsWrong)

/-- 'almanackerlaw09.CodeBack': WHATEVER THE INPUT: true; the input reads as it did. -/
def codeBackSpec : ChangeSpec := { name := "codeBack", fn := fun _ => fun
  | [d1, d2, d3] => { results := [.lit (.bool true)], args := [d1, d2, d3] }
  | _ => none }
def codeBackRow : OpenClaim := { program := "ytinpdamfdaefmaa", sum := "7c5c1930484a723d4b10c9c813b8cbc2c4f47fb52826615aa18173b97a3c60c4", func := "almanacker/almanackerlaw09.CodeBack", spec := "codeBack", apart := false }
def CodeBackSaid : Prop := codeBackRow.holds Try.pinned (OpenSpec.ofChange codeBackSpec)

/-- ITS FALSE NEIGHBOUR: 'it returns false'. Refute it at one input. -/
def codeBackWrong : ChangeSpec := { name := "codeBack", fn := fun _ => fun
  | [d1, d2, d3] => { results := [.lit (.bool false)], args := [d1, d2, d3] }
  | _ => none }
def CodeBackWrongFalsely : Prop := codeBackRow.holds Try.pinned (OpenSpec.ofChange codeBackWrong)

/-- 'almanackerlaw12.WeekTells': WHATEVER THE INPUT: true; the input reads as it did. -/
def weekTellsSpec : ChangeSpec := { name := "weekTells", fn := fun _ => fun
  | [d1, d2, d3] => { results := [.lit (.bool true)], args := [d1, d2, d3] }
  | _ => none }
def weekTellsRow : OpenClaim := { program := "ytinpdamfdaefmaa", sum := "7c5c1930484a723d4b10c9c813b8cbc2c4f47fb52826615aa18173b97a3c60c4", func := "almanacker/almanackerlaw12.WeekTells", spec := "weekTells", apart := false }
def WeekTellsSaid : Prop := weekTellsRow.holds Try.pinned (OpenSpec.ofChange weekTellsSpec)

/-- ITS FALSE NEIGHBOUR: 'it returns false'. Refute it at one input. -/
def weekTellsWrong : ChangeSpec := { name := "weekTells", fn := fun _ => fun
  | [d1, d2, d3] => { results := [.lit (.bool false)], args := [d1, d2, d3] }
  | _ => none }
def WeekTellsWrongFalsely : Prop := weekTellsRow.holds Try.pinned (OpenSpec.ofChange weekTellsWrong)

/-- 'almanackerlaw12.WeekNear': WHATEVER THE INPUT: true; the input reads as it did. -/
def weekNearSpec : ChangeSpec := { name := "weekNear", fn := fun _ => fun
  | [d1, d2, d3] => { results := [.lit (.bool true)], args := [d1, d2, d3] }
  | _ => none }
def weekNearRow : OpenClaim := { program := "ytinpdamfdaefmaa", sum := "7c5c1930484a723d4b10c9c813b8cbc2c4f47fb52826615aa18173b97a3c60c4", func := "almanacker/almanackerlaw12.WeekNear", spec := "weekNear", apart := false }
def WeekNearSaid : Prop := weekNearRow.holds Try.pinned (OpenSpec.ofChange weekNearSpec)

/-- ITS FALSE NEIGHBOUR: 'it returns false'. Refute it at one input. -/
def weekNearWrong : ChangeSpec := { name := "weekNear", fn := fun _ => fun
  | [d1, d2, d3] => { results := [.lit (.bool false)], args := [d1, d2, d3] }
  | _ => none }
def WeekNearWrongFalsely : Prop := weekNearRow.holds Try.pinned (OpenSpec.ofChange weekNearWrong)

/-- 'almanackerlaw12.WeekSteps': WHATEVER THE INPUT: true; the input reads as it did. -/
def weekStepsSpec : ChangeSpec := { name := "weekSteps", fn := fun _ => fun
  | [d1, d2] => { results := [.lit (.bool true)], args := [d1, d2] }
  | _ => none }
def weekStepsRow : OpenClaim := { program := "ytinpdamfdaefmaa", sum := "7c5c1930484a723d4b10c9c813b8cbc2c4f47fb52826615aa18173b97a3c60c4", func := "almanacker/almanackerlaw12.WeekSteps", spec := "weekSteps", apart := false }
def WeekStepsSaid : Prop := weekStepsRow.holds Try.pinned (OpenSpec.ofChange weekStepsSpec)

/-- ITS FALSE NEIGHBOUR: 'it returns false'. Refute it at one input. -/
def weekStepsWrong : ChangeSpec := { name := "weekSteps", fn := fun _ => fun
  | [d1, d2] => { results := [.lit (.bool false)], args := [d1, d2] }
  | _ => none }
def WeekStepsWrongFalsely : Prop := weekStepsRow.holds Try.pinned (OpenSpec.ofChange weekStepsWrong)

/- THE SECOND FORM. 'bulk': how many values and letters a reading holds, each counted each time it is reached (what is shared counts as often as it is met; a slice's spare places count too). A statement '..UptoSaid' is the law's where the arguments, and the package variables that the reading takes, are together of bulk at most 1048576: NARROWER than '..Said'. Prove '..Said' where nothing that the law and all that it calls make is longer than what came in: it says more and counts as full. Else prove '..UptoSaid'. A law counts once. -/
mutual
def uptoBulk {H : Type} : DataW H → Nat
  | .lit (.string bytes) => bytes.length + 1
  | .lit _ => 1
  | .nil => 1
  | .ptr d => uptoBulk d + 1
  | .slice elems spare => uptoBulkAll elems + uptoBulkAll spare + 1
  | .agg parts => uptoBulkAll parts + 1
  | .iface _ d => uptoBulk d + 1
  | .map entries => uptoBulkEntries entries + 1
  | .held _ => 1
def uptoBulkAll {H : Type} : List (DataW H) → Nat
  | [] => 0
  | d :: r => uptoBulk d + uptoBulkAll r
def uptoBulkEntries {H : Type} : List (Lit × DataW H) → Nat
  | [] => 0
  | x :: r => uptoBulkEntry x + uptoBulkEntries r
def uptoBulkEntry {H : Type} : Lit × DataW H → Nat
  | (.string bytes, d) => bytes.length + uptoBulk d + 1
  | (_, d) => uptoBulk d + 1
 end
def uptoSmall : (H : Type) → List (DataW H) → Bool := fun _ ds => decide (uptoBulkAll ds ≤ 1048576)
def OpenSpec.upto (s : _root_.Go.ChangeSpec) : _root_.Go.OpenSpec := { _root_.Go.OpenSpec.ofChange s with cond := some uptoSmall }

/-- 'almanackerlaw09.CodeTells', WHERE WHAT IT READS IS OF BULK AT MOST 1048576: true; the input reads as it did. -/
def codeTellsUptoRow : OpenClaim := { program := "ytinpdamfdaefmaa", sum := "7c5c1930484a723d4b10c9c813b8cbc2c4f47fb52826615aa18173b97a3c60c4", func := "almanacker/almanackerlaw09.CodeTells", spec := "codeTells", apart := false, narrowed := true }
def CodeTellsUptoSaid : Prop := codeTellsUptoRow.holds Try.pinned (OpenSpec.upto codeTellsSpec)

/-- 'almanackerlaw09.CodeBack', WHERE WHAT IT READS IS OF BULK AT MOST 1048576: true; the input reads as it did. -/
def codeBackUptoRow : OpenClaim := { program := "ytinpdamfdaefmaa", sum := "7c5c1930484a723d4b10c9c813b8cbc2c4f47fb52826615aa18173b97a3c60c4", func := "almanacker/almanackerlaw09.CodeBack", spec := "codeBack", apart := false, narrowed := true }
def CodeBackUptoSaid : Prop := codeBackUptoRow.holds Try.pinned (OpenSpec.upto codeBackSpec)

/-- 'almanackerlaw12.WeekTells', WHERE WHAT IT READS IS OF BULK AT MOST 1048576: true; the input reads as it did. -/
def weekTellsUptoRow : OpenClaim := { program := "ytinpdamfdaefmaa", sum := "7c5c1930484a723d4b10c9c813b8cbc2c4f47fb52826615aa18173b97a3c60c4", func := "almanacker/almanackerlaw12.WeekTells", spec := "weekTells", apart := false, narrowed := true }
def WeekTellsUptoSaid : Prop := weekTellsUptoRow.holds Try.pinned (OpenSpec.upto weekTellsSpec)

/-- 'almanackerlaw12.WeekNear', WHERE WHAT IT READS IS OF BULK AT MOST 1048576: true; the input reads as it did. -/
def weekNearUptoRow : OpenClaim := { program := "ytinpdamfdaefmaa", sum := "7c5c1930484a723d4b10c9c813b8cbc2c4f47fb52826615aa18173b97a3c60c4", func := "almanacker/almanackerlaw12.WeekNear", spec := "weekNear", apart := false, narrowed := true }
def WeekNearUptoSaid : Prop := weekNearUptoRow.holds Try.pinned (OpenSpec.upto weekNearSpec)

/-- 'almanackerlaw12.WeekSteps', WHERE WHAT IT READS IS OF BULK AT MOST 1048576: true; the input reads as it did. -/
def weekStepsUptoRow : OpenClaim := { program := "ytinpdamfdaefmaa", sum := "7c5c1930484a723d4b10c9c813b8cbc2c4f47fb52826615aa18173b97a3c60c4", func := "almanacker/almanackerlaw12.WeekSteps", spec := "weekSteps", apart := false, narrowed := true }
def WeekStepsUptoSaid : Prop := weekStepsUptoRow.holds Try.pinned (OpenSpec.upto weekStepsSpec)

end Rows
end Go.Proofs.Ytinpdamfdaefmaa
