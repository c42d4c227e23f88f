/-
  NARROWER THAN 'FOR EVERY INPUT', by the rows' own cells (each row's printed sentence says how): HebTells: laid · HebBack: laid · HebNext: laid · HebMonths: laid · GregTells: laid · GregBack: laid · GregNext: laid · GregRound: laid.
  DERIVED. THE GIVEN ROWS OF THIS SEAT. 8 by the template 'for every input the law returns true; each argument reads behind the call as it read before'; 0 by the template 'total and deterministic' (their statements: YtinpdamfdaefmaaDoorTotals.lean).
  GIVEN WITH THE SEED: the statements are not yours to turn. If you find one false, say at which input.
  Laid BY PROGRAM, IN A SANDBOX (cutbox-rows.mjs): the forced cells as the released guide's own fill.sh prints them over the translation e7361cc3b23e6cde… (all of the seat's roots in one cut). By AI agents, Wed Nov 11 2026. No macro, syntax, notation, axiom, sorry.
-/
import Derived.Test.YtinpdamfdaefmaaDoorChecked
import GoSem.Claim
import GoSem.ClaimJoined
import GoSem.ClaimMapViews
import Derived.JoinedTies
import Derived.KernelRfl
namespace Go.Proofs.YtinpdamfdaefmaaDoor
/- THE CELL 'sum', in the pinned program and in every row, IS THE sha256 OF THE DUMP (.gsa) THAT YtinpdamfdaefmaaDoorProg.lean LOADS. Nothing in Lean hashes anything: it is a label: what it is worth is what the hold of that sum in a sandbox is worth. -/
noncomputable def Tryd.pinned : Pinned := { name := "ytinpdamfdaefmaadoor", sum := "e7361cc3b23e6cde9c440634b55fc55aee2a233cf3771302502999e7008fdd04", checked := Tryd.checked }
namespace Rows
def none {H : Type} : Left H := { results := [], args := [] }

/- WHAT THE LISTED PACKAGE-LEVEL VARIABLES READ AS WHEN THE CALL BEGINS. Each datum BY PROGRAM (the guide's laid-datum.mjs) off the statement by which the dump's own 'gosem.cut.vars' lays the variable. In a bare row this is a premise. The card (YtinpdamfdaefmaaDoorCards.lean) ties it to the program's text. -/
def laid_almanacker_keviah_types {H : Type} : DataW H := .agg [.agg [.lit (.int .i64 1), .lit (.int .i64 0), .lit (.bool false)], .agg [.lit (.int .i64 1), .lit (.int .i64 2), .lit (.bool false)], .agg [.lit (.int .i64 2), .lit (.int .i64 1), .lit (.bool false)], .agg [.lit (.int .i64 4), .lit (.int .i64 1), .lit (.bool false)], .agg [.lit (.int .i64 4), .lit (.int .i64 2), .lit (.bool false)], .agg [.lit (.int .i64 6), .lit (.int .i64 0), .lit (.bool false)], .agg [.lit (.int .i64 6), .lit (.int .i64 2), .lit (.bool false)], .agg [.lit (.int .i64 1), .lit (.int .i64 0), .lit (.bool true)], .agg [.lit (.int .i64 1), .lit (.int .i64 2), .lit (.bool true)], .agg [.lit (.int .i64 2), .lit (.int .i64 1), .lit (.bool true)], .agg [.lit (.int .i64 4), .lit (.int .i64 0), .lit (.bool true)], .agg [.lit (.int .i64 4), .lit (.int .i64 2), .lit (.bool true)], .agg [.lit (.int .i64 6), .lit (.int .i64 0), .lit (.bool true)], .agg [.lit (.int .i64 6), .lit (.int .i64 2), .lit (.bool true)]]
def laid_almanacker_month_lengths {H : Type} : DataW H := .agg [.lit (.int .i64 30), .lit (.int .i64 29), .lit (.int .i64 30), .lit (.int .i64 29), .lit (.int .i64 30), .lit (.int .i64 30), .lit (.int .i64 29), .lit (.int .i64 30), .lit (.int .i64 29), .lit (.int .i64 30), .lit (.int .i64 29), .lit (.int .i64 30), .lit (.int .i64 29)]
def laid_almanacker_greg_lengths {H : Type} : DataW H := .agg [.lit (.int .i64 31), .lit (.int .i64 28), .lit (.int .i64 31), .lit (.int .i64 30), .lit (.int .i64 31), .lit (.int .i64 30), .lit (.int .i64 31), .lit (.int .i64 31), .lit (.int .i64 30), .lit (.int .i64 31), .lit (.int .i64 30), .lit (.int .i64 31)]

/-- 'almanackerlaw10.HebTells': WHATEVER THE INPUT: true; the input reads as it did. -/
def hebTellsSpec : ChangeSpec := { name := "hebTells", fn := fun _ => fun
  | [d1, d2, d3] => { results := [.lit (.bool true)], args := [d1, d2, d3] }
  | _ => none }
def hebTellsRow : OpenClaim := { program := "ytinpdamfdaefmaadoor", sum := "e7361cc3b23e6cde9c440634b55fc55aee2a233cf3771302502999e7008fdd04", func := "almanacker/almanackerlaw10.HebTells", spec := "hebTells", inPlace := ["math/bits.Add64"], unfollowed := true, recurses := true, named := ["almanacker/keviah.types", "almanacker/month.lengths"], apart := false, laid := [("almanacker/keviah.types", laid_almanacker_keviah_types), ("almanacker/month.lengths", laid_almanacker_month_lengths)] }
def HebTellsSaid : Prop := hebTellsRow.holds Tryd.pinned (OpenSpec.ofChange hebTellsSpec)

/-- ITS FALSE NEIGHBOUR: 'it returns false'. Refute it at one input. -/
def hebTellsWrong : ChangeSpec := { name := "hebTells", fn := fun _ => fun
  | [d1, d2, d3] => { results := [.lit (.bool false)], args := [d1, d2, d3] }
  | _ => none }
def HebTellsWrongFalsely : Prop := hebTellsRow.holds Tryd.pinned (OpenSpec.ofChange hebTellsWrong)

/-- 'almanackerlaw10.HebBack': WHATEVER THE INPUT: true; the input reads as it did. -/
def hebBackSpec : ChangeSpec := { name := "hebBack", fn := fun _ => fun
  | [d1, d2] => { results := [.lit (.bool true)], args := [d1, d2] }
  | _ => none }
def hebBackRow : OpenClaim := { program := "ytinpdamfdaefmaadoor", sum := "e7361cc3b23e6cde9c440634b55fc55aee2a233cf3771302502999e7008fdd04", func := "almanacker/almanackerlaw10.HebBack", spec := "hebBack", inPlace := ["math/bits.Add64"], unfollowed := true, recurses := true, named := ["almanacker/keviah.types", "almanacker/month.lengths"], apart := false, laid := [("almanacker/keviah.types", laid_almanacker_keviah_types), ("almanacker/month.lengths", laid_almanacker_month_lengths)] }
def HebBackSaid : Prop := hebBackRow.holds Tryd.pinned (OpenSpec.ofChange hebBackSpec)

/-- ITS FALSE NEIGHBOUR: 'it returns false'. Refute it at one input. -/
def hebBackWrong : ChangeSpec := { name := "hebBack", fn := fun _ => fun
  | [d1, d2] => { results := [.lit (.bool false)], args := [d1, d2] }
  | _ => none }
def HebBackWrongFalsely : Prop := hebBackRow.holds Tryd.pinned (OpenSpec.ofChange hebBackWrong)

/-- 'almanackerlaw10.HebNext': WHATEVER THE INPUT: true; the input reads as it did. -/
def hebNextSpec : ChangeSpec := { name := "hebNext", fn := fun _ => fun
  | [d1, d2] => { results := [.lit (.bool true)], args := [d1, d2] }
  | _ => none }
def hebNextRow : OpenClaim := { program := "ytinpdamfdaefmaadoor", sum := "e7361cc3b23e6cde9c440634b55fc55aee2a233cf3771302502999e7008fdd04", func := "almanacker/almanackerlaw10.HebNext", spec := "hebNext", inPlace := ["math/bits.Add64"], unfollowed := true, recurses := true, named := ["almanacker/keviah.types", "almanacker/month.lengths"], apart := false, laid := [("almanacker/keviah.types", laid_almanacker_keviah_types), ("almanacker/month.lengths", laid_almanacker_month_lengths)] }
def HebNextSaid : Prop := hebNextRow.holds Tryd.pinned (OpenSpec.ofChange hebNextSpec)

/-- ITS FALSE NEIGHBOUR: 'it returns false'. Refute it at one input. -/
def hebNextWrong : ChangeSpec := { name := "hebNext", fn := fun _ => fun
  | [d1, d2] => { results := [.lit (.bool false)], args := [d1, d2] }
  | _ => none }
def HebNextWrongFalsely : Prop := hebNextRow.holds Tryd.pinned (OpenSpec.ofChange hebNextWrong)

/-- 'almanackerlaw10.HebMonths': WHATEVER THE INPUT: true; the input reads as it did. -/
def hebMonthsSpec : ChangeSpec := { name := "hebMonths", fn := fun _ => fun
  | [d1, d2] => { results := [.lit (.bool true)], args := [d1, d2] }
  | _ => none }
def hebMonthsRow : OpenClaim := { program := "ytinpdamfdaefmaadoor", sum := "e7361cc3b23e6cde9c440634b55fc55aee2a233cf3771302502999e7008fdd04", func := "almanacker/almanackerlaw10.HebMonths", spec := "hebMonths", inPlace := ["math/bits.Add64"], unfollowed := true, recurses := true, named := ["almanacker/keviah.types", "almanacker/month.lengths"], apart := false, laid := [("almanacker/keviah.types", laid_almanacker_keviah_types), ("almanacker/month.lengths", laid_almanacker_month_lengths)] }
def HebMonthsSaid : Prop := hebMonthsRow.holds Tryd.pinned (OpenSpec.ofChange hebMonthsSpec)

/-- ITS FALSE NEIGHBOUR: 'it returns false'. Refute it at one input. -/
def hebMonthsWrong : ChangeSpec := { name := "hebMonths", fn := fun _ => fun
  | [d1, d2] => { results := [.lit (.bool false)], args := [d1, d2] }
  | _ => none }
def HebMonthsWrongFalsely : Prop := hebMonthsRow.holds Tryd.pinned (OpenSpec.ofChange hebMonthsWrong)

/-- 'almanackerlaw11.GregTells': WHATEVER THE INPUT: true; the input reads as it did. -/
def gregTellsSpec : ChangeSpec := { name := "gregTells", fn := fun _ => fun
  | [d1, d2, d3] => { results := [.lit (.bool true)], args := [d1, d2, d3] }
  | _ => none }
def gregTellsRow : OpenClaim := { program := "ytinpdamfdaefmaadoor", sum := "e7361cc3b23e6cde9c440634b55fc55aee2a233cf3771302502999e7008fdd04", func := "almanacker/almanackerlaw11.GregTells", spec := "gregTells", unfollowed := true, recurses := true, named := ["almanacker/greg.lengths"], apart := false, laid := [("almanacker/greg.lengths", laid_almanacker_greg_lengths)] }
def GregTellsSaid : Prop := gregTellsRow.holds Tryd.pinned (OpenSpec.ofChange gregTellsSpec)

/-- ITS FALSE NEIGHBOUR: 'it returns false'. Refute it at one input. -/
def gregTellsWrong : ChangeSpec := { name := "gregTells", fn := fun _ => fun
  | [d1, d2, d3] => { results := [.lit (.bool false)], args := [d1, d2, d3] }
  | _ => none }
def GregTellsWrongFalsely : Prop := gregTellsRow.holds Tryd.pinned (OpenSpec.ofChange gregTellsWrong)

/-- 'almanackerlaw11.GregBack': WHATEVER THE INPUT: true; the input reads as it did. -/
def gregBackSpec : ChangeSpec := { name := "gregBack", fn := fun _ => fun
  | [d1, d2] => { results := [.lit (.bool true)], args := [d1, d2] }
  | _ => none }
def gregBackRow : OpenClaim := { program := "ytinpdamfdaefmaadoor", sum := "e7361cc3b23e6cde9c440634b55fc55aee2a233cf3771302502999e7008fdd04", func := "almanacker/almanackerlaw11.GregBack", spec := "gregBack", unfollowed := true, recurses := true, named := ["almanacker/greg.lengths"], apart := false, laid := [("almanacker/greg.lengths", laid_almanacker_greg_lengths)] }
def GregBackSaid : Prop := gregBackRow.holds Tryd.pinned (OpenSpec.ofChange gregBackSpec)

/-- ITS FALSE NEIGHBOUR: 'it returns false'. Refute it at one input. -/
def gregBackWrong : ChangeSpec := { name := "gregBack", fn := fun _ => fun
  | [d1, d2] => { results := [.lit (.bool false)], args := [d1, d2] }
  | _ => none }
def GregBackWrongFalsely : Prop := gregBackRow.holds Tryd.pinned (OpenSpec.ofChange gregBackWrong)

/-- 'almanackerlaw11.GregNext': WHATEVER THE INPUT: true; the input reads as it did. -/
def gregNextSpec : ChangeSpec := { name := "gregNext", fn := fun _ => fun
  | [d] => { results := [.lit (.bool true)], args := [d] }
  | _ => none }
def gregNextRow : OpenClaim := { program := "ytinpdamfdaefmaadoor", sum := "e7361cc3b23e6cde9c440634b55fc55aee2a233cf3771302502999e7008fdd04", func := "almanacker/almanackerlaw11.GregNext", spec := "gregNext", unfollowed := true, recurses := true, named := ["almanacker/greg.lengths"], apart := false, laid := [("almanacker/greg.lengths", laid_almanacker_greg_lengths)] }
def GregNextSaid : Prop := gregNextRow.holds Tryd.pinned (OpenSpec.ofChange gregNextSpec)

/-- ITS FALSE NEIGHBOUR: 'it returns false'. Refute it at one input. -/
def gregNextWrong : ChangeSpec := { name := "gregNext", fn := fun _ => fun
  | [d] => { results := [.lit (.bool false)], args := [d] }
  | _ => none }
def GregNextWrongFalsely : Prop := gregNextRow.holds Tryd.pinned (OpenSpec.ofChange gregNextWrong)

/-- 'almanackerlaw11.GregRound': WHATEVER THE INPUT: true; the input reads as it did. -/
def gregRoundSpec : ChangeSpec := { name := "gregRound", fn := fun _ => fun
  | [d] => { results := [.lit (.bool true)], args := [d] }
  | _ => none }
def gregRoundRow : OpenClaim := { program := "ytinpdamfdaefmaadoor", sum := "e7361cc3b23e6cde9c440634b55fc55aee2a233cf3771302502999e7008fdd04", func := "almanacker/almanackerlaw11.GregRound", spec := "gregRound", unfollowed := true, recurses := true, named := ["almanacker/greg.lengths"], apart := false, laid := [("almanacker/greg.lengths", laid_almanacker_greg_lengths)] }
def GregRoundSaid : Prop := gregRoundRow.holds Tryd.pinned (OpenSpec.ofChange gregRoundSpec)

/-- ITS FALSE NEIGHBOUR: 'it returns false'. Refute it at one input. -/
def gregRoundWrong : ChangeSpec := { name := "gregRound", fn := fun _ => fun
  | [d] => { results := [.lit (.bool false)], args := [d] }
  | _ => none }
def GregRoundWrongFalsely : Prop := gregRoundRow.holds Tryd.pinned (OpenSpec.ofChange gregRoundWrong)

/- THE SECOND FORM. 'bulk': how many values and letters a reading holds, each counted each time it is reached (what is shared counts as often as it is met; a slice's spare places count too). A statement '..UptoSaid' is the law's where the arguments, and the package variables that the reading takes, are together of bulk at most 1048576: NARROWER than '..Said'. Prove '..Said' where nothing that the law and all that it calls make is longer than what came in: it says more and counts as full. Else prove '..UptoSaid'. A law counts once. -/
mutual
def uptoBulk {H : Type} : DataW H → Nat
  | .lit (.string bytes) => bytes.length + 1
  | .lit _ => 1
  | .nil => 1
  | .ptr d => uptoBulk d + 1
  | .slice elems spare => uptoBulkAll elems + uptoBulkAll spare + 1
  | .agg parts => uptoBulkAll parts + 1
  | .iface _ d => uptoBulk d + 1
  | .map entries => uptoBulkEntries entries + 1
  | .held _ => 1
def uptoBulkAll {H : Type} : List (DataW H) → Nat
  | [] => 0
  | d :: r => uptoBulk d + uptoBulkAll r
def uptoBulkEntries {H : Type} : List (Lit × DataW H) → Nat
  | [] => 0
  | x :: r => uptoBulkEntry x + uptoBulkEntries r
def uptoBulkEntry {H : Type} : Lit × DataW H → Nat
  | (.string bytes, d) => bytes.length + uptoBulk d + 1
  | (_, d) => uptoBulk d + 1
 end
def uptoSmall : (H : Type) → List (DataW H) → Bool := fun _ ds => decide (uptoBulkAll ds ≤ 1048576)
def OpenSpec.upto (s : _root_.Go.ChangeSpec) : _root_.Go.OpenSpec := { _root_.Go.OpenSpec.ofChange s with cond := some uptoSmall }

/-- 'almanackerlaw10.HebTells', WHERE WHAT IT READS IS OF BULK AT MOST 1048576: true; the input reads as it did. -/
def hebTellsUptoRow : OpenClaim := { program := "ytinpdamfdaefmaadoor", sum := "e7361cc3b23e6cde9c440634b55fc55aee2a233cf3771302502999e7008fdd04", func := "almanacker/almanackerlaw10.HebTells", spec := "hebTells", inPlace := ["math/bits.Add64"], unfollowed := true, recurses := true, named := ["almanacker/keviah.types", "almanacker/month.lengths"], apart := false, laid := [("almanacker/keviah.types", laid_almanacker_keviah_types), ("almanacker/month.lengths", laid_almanacker_month_lengths)], narrowed := true }
def HebTellsUptoSaid : Prop := hebTellsUptoRow.holds Tryd.pinned (OpenSpec.upto hebTellsSpec)

/-- 'almanackerlaw10.HebBack', WHERE WHAT IT READS IS OF BULK AT MOST 1048576: true; the input reads as it did. -/
def hebBackUptoRow : OpenClaim := { program := "ytinpdamfdaefmaadoor", sum := "e7361cc3b23e6cde9c440634b55fc55aee2a233cf3771302502999e7008fdd04", func := "almanacker/almanackerlaw10.HebBack", spec := "hebBack", inPlace := ["math/bits.Add64"], unfollowed := true, recurses := true, named := ["almanacker/keviah.types", "almanacker/month.lengths"], apart := false, laid := [("almanacker/keviah.types", laid_almanacker_keviah_types), ("almanacker/month.lengths", laid_almanacker_month_lengths)], narrowed := true }
def HebBackUptoSaid : Prop := hebBackUptoRow.holds Tryd.pinned (OpenSpec.upto hebBackSpec)

/-- 'almanackerlaw10.HebNext', WHERE WHAT IT READS IS OF BULK AT MOST 1048576: true; the input reads as it did. -/
def hebNextUptoRow : OpenClaim := { program := "ytinpdamfdaefmaadoor", sum := "e7361cc3b23e6cde9c440634b55fc55aee2a233cf3771302502999e7008fdd04", func := "almanacker/almanackerlaw10.HebNext", spec := "hebNext", inPlace := ["math/bits.Add64"], unfollowed := true, recurses := true, named := ["almanacker/keviah.types", "almanacker/month.lengths"], apart := false, laid := [("almanacker/keviah.types", laid_almanacker_keviah_types), ("almanacker/month.lengths", laid_almanacker_month_lengths)], narrowed := true }
def HebNextUptoSaid : Prop := hebNextUptoRow.holds Tryd.pinned (OpenSpec.upto hebNextSpec)

/-- 'almanackerlaw10.HebMonths', WHERE WHAT IT READS IS OF BULK AT MOST 1048576: true; the input reads as it did. -/
def hebMonthsUptoRow : OpenClaim := { program := "ytinpdamfdaefmaadoor", sum := "e7361cc3b23e6cde9c440634b55fc55aee2a233cf3771302502999e7008fdd04", func := "almanacker/almanackerlaw10.HebMonths", spec := "hebMonths", inPlace := ["math/bits.Add64"], unfollowed := true, recurses := true, named := ["almanacker/keviah.types", "almanacker/month.lengths"], apart := false, laid := [("almanacker/keviah.types", laid_almanacker_keviah_types), ("almanacker/month.lengths", laid_almanacker_month_lengths)], narrowed := true }
def HebMonthsUptoSaid : Prop := hebMonthsUptoRow.holds Tryd.pinned (OpenSpec.upto hebMonthsSpec)

/-- 'almanackerlaw11.GregTells', WHERE WHAT IT READS IS OF BULK AT MOST 1048576: true; the input reads as it did. -/
def gregTellsUptoRow : OpenClaim := { program := "ytinpdamfdaefmaadoor", sum := "e7361cc3b23e6cde9c440634b55fc55aee2a233cf3771302502999e7008fdd04", func := "almanacker/almanackerlaw11.GregTells", spec := "gregTells", unfollowed := true, recurses := true, named := ["almanacker/greg.lengths"], apart := false, laid := [("almanacker/greg.lengths", laid_almanacker_greg_lengths)], narrowed := true }
def GregTellsUptoSaid : Prop := gregTellsUptoRow.holds Tryd.pinned (OpenSpec.upto gregTellsSpec)

/-- 'almanackerlaw11.GregBack', WHERE WHAT IT READS IS OF BULK AT MOST 1048576: true; the input reads as it did. -/
def gregBackUptoRow : OpenClaim := { program := "ytinpdamfdaefmaadoor", sum := "e7361cc3b23e6cde9c440634b55fc55aee2a233cf3771302502999e7008fdd04", func := "almanacker/almanackerlaw11.GregBack", spec := "gregBack", unfollowed := true, recurses := true, named := ["almanacker/greg.lengths"], apart := false, laid := [("almanacker/greg.lengths", laid_almanacker_greg_lengths)], narrowed := true }
def GregBackUptoSaid : Prop := gregBackUptoRow.holds Tryd.pinned (OpenSpec.upto gregBackSpec)

/-- 'almanackerlaw11.GregNext', WHERE WHAT IT READS IS OF BULK AT MOST 1048576: true; the input reads as it did. -/
def gregNextUptoRow : OpenClaim := { program := "ytinpdamfdaefmaadoor", sum := "e7361cc3b23e6cde9c440634b55fc55aee2a233cf3771302502999e7008fdd04", func := "almanacker/almanackerlaw11.GregNext", spec := "gregNext", unfollowed := true, recurses := true, named := ["almanacker/greg.lengths"], apart := false, laid := [("almanacker/greg.lengths", laid_almanacker_greg_lengths)], narrowed := true }
def GregNextUptoSaid : Prop := gregNextUptoRow.holds Tryd.pinned (OpenSpec.upto gregNextSpec)

/-- 'almanackerlaw11.GregRound', WHERE WHAT IT READS IS OF BULK AT MOST 1048576: true; the input reads as it did. -/
def gregRoundUptoRow : OpenClaim := { program := "ytinpdamfdaefmaadoor", sum := "e7361cc3b23e6cde9c440634b55fc55aee2a233cf3771302502999e7008fdd04", func := "almanacker/almanackerlaw11.GregRound", spec := "gregRound", unfollowed := true, recurses := true, named := ["almanacker/greg.lengths"], apart := false, laid := [("almanacker/greg.lengths", laid_almanacker_greg_lengths)], narrowed := true }
def GregRoundUptoSaid : Prop := gregRoundUptoRow.holds Tryd.pinned (OpenSpec.upto gregRoundSpec)

end Rows
end Go.Proofs.YtinpdamfdaefmaaDoor
