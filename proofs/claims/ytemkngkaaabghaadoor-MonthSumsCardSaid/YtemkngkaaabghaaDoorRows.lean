/-
  NARROWER THAN 'FOR EVERY INPUT', by the rows' own cells (each row's printed sentence says how): KeviahTells: laid · KeviahYears: laid · KeviahNumbers: laid · MonthTells: laid · MonthSums: laid.
  DERIVED. THE GIVEN ROWS OF THIS SEAT. 5 by the template 'for every input the law returns true; each argument reads behind the call as it read before'; 0 by the template 'total and deterministic' (their statements: YtemkngkaaabghaaDoorTotals.lean).
  GIVEN WITH THE SEED: the statements are not yours to turn. If you find one false, say at which input.
  Laid BY PROGRAM, IN A SANDBOX (cutbox-rows.mjs): the forced cells as the released guide's own fill.sh prints them over the translation babb5c273aa910b7… (all of the seat's roots in one cut). By AI agents, Wed Nov 11 2026. No macro, syntax, notation, axiom, sorry.
-/
import Derived.Test.YtemkngkaaabghaaDoorChecked
import GoSem.Claim
import GoSem.ClaimJoined
import GoSem.ClaimMapViews
import Derived.JoinedTies
import Derived.KernelRfl
namespace Go.Proofs.YtemkngkaaabghaaDoor
/- THE CELL 'sum', in the pinned program and in every row, IS THE sha256 OF THE DUMP (.gsa) THAT YtemkngkaaabghaaDoorProg.lean LOADS. Nothing in Lean hashes anything: it is a label: what it is worth is what the hold of that sum in a sandbox is worth. -/
noncomputable def Tryd.pinned : Pinned := { name := "ytemkngkaaabghaadoor", sum := "babb5c273aa910b76eb480b695bab90aa8c0498817fc2b5a49e4191c78658710", checked := Tryd.checked }
namespace Rows
def none {H : Type} : Left H := { results := [], args := [] }

/- WHAT THE LISTED PACKAGE-LEVEL VARIABLES READ AS WHEN THE CALL BEGINS. Each datum BY PROGRAM (the guide's laid-datum.mjs) off the statement by which the dump's own 'gosem.cut.vars' lays the variable. In a bare row this is a premise. The card (YtemkngkaaabghaaDoorCards.lean) ties it to the program's text. -/
def laid_almanacker_keviah_types {H : Type} : DataW H := .agg [.agg [.lit (.int .i64 1), .lit (.int .i64 0), .lit (.bool false)], .agg [.lit (.int .i64 1), .lit (.int .i64 2), .lit (.bool false)], .agg [.lit (.int .i64 2), .lit (.int .i64 1), .lit (.bool false)], .agg [.lit (.int .i64 4), .lit (.int .i64 1), .lit (.bool false)], .agg [.lit (.int .i64 4), .lit (.int .i64 2), .lit (.bool false)], .agg [.lit (.int .i64 6), .lit (.int .i64 0), .lit (.bool false)], .agg [.lit (.int .i64 6), .lit (.int .i64 2), .lit (.bool false)], .agg [.lit (.int .i64 1), .lit (.int .i64 0), .lit (.bool true)], .agg [.lit (.int .i64 1), .lit (.int .i64 2), .lit (.bool true)], .agg [.lit (.int .i64 2), .lit (.int .i64 1), .lit (.bool true)], .agg [.lit (.int .i64 4), .lit (.int .i64 0), .lit (.bool true)], .agg [.lit (.int .i64 4), .lit (.int .i64 2), .lit (.bool true)], .agg [.lit (.int .i64 6), .lit (.int .i64 0), .lit (.bool true)], .agg [.lit (.int .i64 6), .lit (.int .i64 2), .lit (.bool true)]]
def laid_almanacker_month_lengths {H : Type} : DataW H := .agg [.lit (.int .i64 30), .lit (.int .i64 29), .lit (.int .i64 30), .lit (.int .i64 29), .lit (.int .i64 30), .lit (.int .i64 30), .lit (.int .i64 29), .lit (.int .i64 30), .lit (.int .i64 29), .lit (.int .i64 30), .lit (.int .i64 29), .lit (.int .i64 30), .lit (.int .i64 29)]

/-- 'almanackerlaw07.KeviahTells': WHATEVER THE INPUT: true; the input reads as it did. -/
def keviahTellsSpec : ChangeSpec := { name := "keviahTells", fn := fun _ => fun
  | [d1, d2, d3] => { results := [.lit (.bool true)], args := [d1, d2, d3] }
  | _ => none }
def keviahTellsRow : OpenClaim := { program := "ytemkngkaaabghaadoor", sum := "babb5c273aa910b76eb480b695bab90aa8c0498817fc2b5a49e4191c78658710", func := "almanacker/almanackerlaw07.KeviahTells", spec := "keviahTells", inPlace := ["math/bits.Add64"], named := ["almanacker/keviah.types"], apart := false, laid := [("almanacker/keviah.types", laid_almanacker_keviah_types)] }
def KeviahTellsSaid : Prop := keviahTellsRow.holds Tryd.pinned (OpenSpec.ofChange keviahTellsSpec)

/-- ITS FALSE NEIGHBOUR: 'it returns false'. Refute it at one input. -/
def keviahTellsWrong : ChangeSpec := { name := "keviahTells", fn := fun _ => fun
  | [d1, d2, d3] => { results := [.lit (.bool false)], args := [d1, d2, d3] }
  | _ => none }
def KeviahTellsWrongFalsely : Prop := keviahTellsRow.holds Tryd.pinned (OpenSpec.ofChange keviahTellsWrong)

/-- 'almanackerlaw07.KeviahYears': WHATEVER THE INPUT: true; the input reads as it did. -/
def keviahYearsSpec : ChangeSpec := { name := "keviahYears", fn := fun _ => fun
  | [d] => { results := [.lit (.bool true)], args := [d] }
  | _ => none }
def keviahYearsRow : OpenClaim := { program := "ytemkngkaaabghaadoor", sum := "babb5c273aa910b76eb480b695bab90aa8c0498817fc2b5a49e4191c78658710", func := "almanacker/almanackerlaw07.KeviahYears", spec := "keviahYears", inPlace := ["math/bits.Add64"], named := ["almanacker/keviah.types"], apart := false, laid := [("almanacker/keviah.types", laid_almanacker_keviah_types)] }
def KeviahYearsSaid : Prop := keviahYearsRow.holds Tryd.pinned (OpenSpec.ofChange keviahYearsSpec)

/-- ITS FALSE NEIGHBOUR: 'it returns false'. Refute it at one input. -/
def keviahYearsWrong : ChangeSpec := { name := "keviahYears", fn := fun _ => fun
  | [d] => { results := [.lit (.bool false)], args := [d] }
  | _ => none }
def KeviahYearsWrongFalsely : Prop := keviahYearsRow.holds Tryd.pinned (OpenSpec.ofChange keviahYearsWrong)

/-- 'almanackerlaw07.KeviahNumbers': WHATEVER THE INPUT: true; the input reads as it did. -/
def keviahNumbersSpec : ChangeSpec := { name := "keviahNumbers", fn := fun _ => fun
  | [d1, d2] => { results := [.lit (.bool true)], args := [d1, d2] }
  | _ => none }
def keviahNumbersRow : OpenClaim := { program := "ytemkngkaaabghaadoor", sum := "babb5c273aa910b76eb480b695bab90aa8c0498817fc2b5a49e4191c78658710", func := "almanacker/almanackerlaw07.KeviahNumbers", spec := "keviahNumbers", inPlace := ["math/bits.Add64"], named := ["almanacker/keviah.types"], apart := false, laid := [("almanacker/keviah.types", laid_almanacker_keviah_types)] }
def KeviahNumbersSaid : Prop := keviahNumbersRow.holds Tryd.pinned (OpenSpec.ofChange keviahNumbersSpec)

/-- ITS FALSE NEIGHBOUR: 'it returns false'. Refute it at one input. -/
def keviahNumbersWrong : ChangeSpec := { name := "keviahNumbers", fn := fun _ => fun
  | [d1, d2] => { results := [.lit (.bool false)], args := [d1, d2] }
  | _ => none }
def KeviahNumbersWrongFalsely : Prop := keviahNumbersRow.holds Tryd.pinned (OpenSpec.ofChange keviahNumbersWrong)

/-- 'almanackerlaw08.MonthTells': WHATEVER THE INPUT: true; the input reads as it did. -/
def monthTellsSpec : ChangeSpec := { name := "monthTells", fn := fun _ => fun
  | [d1, d2, d3] => { results := [.lit (.bool true)], args := [d1, d2, d3] }
  | _ => none }
def monthTellsRow : OpenClaim := { program := "ytemkngkaaabghaadoor", sum := "babb5c273aa910b76eb480b695bab90aa8c0498817fc2b5a49e4191c78658710", func := "almanacker/almanackerlaw08.MonthTells", spec := "monthTells", named := ["almanacker/month.lengths", "almanacker/keviah.types"], apart := false, laid := [("almanacker/keviah.types", laid_almanacker_keviah_types), ("almanacker/month.lengths", laid_almanacker_month_lengths)] }
def MonthTellsSaid : Prop := monthTellsRow.holds Tryd.pinned (OpenSpec.ofChange monthTellsSpec)

/-- ITS FALSE NEIGHBOUR: 'it returns false'. Refute it at one input. -/
def monthTellsWrong : ChangeSpec := { name := "monthTells", fn := fun _ => fun
  | [d1, d2, d3] => { results := [.lit (.bool false)], args := [d1, d2, d3] }
  | _ => none }
def MonthTellsWrongFalsely : Prop := monthTellsRow.holds Tryd.pinned (OpenSpec.ofChange monthTellsWrong)

/-- 'almanackerlaw08.MonthSums': WHATEVER THE INPUT: true; the input reads as it did. -/
def monthSumsSpec : ChangeSpec := { name := "monthSums", fn := fun _ => fun
  | [d] => { results := [.lit (.bool true)], args := [d] }
  | _ => none }
def monthSumsRow : OpenClaim := { program := "ytemkngkaaabghaadoor", sum := "babb5c273aa910b76eb480b695bab90aa8c0498817fc2b5a49e4191c78658710", func := "almanacker/almanackerlaw08.MonthSums", spec := "monthSums", named := ["almanacker/keviah.types", "almanacker/month.lengths"], apart := false, laid := [("almanacker/keviah.types", laid_almanacker_keviah_types), ("almanacker/month.lengths", laid_almanacker_month_lengths)] }
def MonthSumsSaid : Prop := monthSumsRow.holds Tryd.pinned (OpenSpec.ofChange monthSumsSpec)

/-- ITS FALSE NEIGHBOUR: 'it returns false'. Refute it at one input. -/
def monthSumsWrong : ChangeSpec := { name := "monthSums", fn := fun _ => fun
  | [d] => { results := [.lit (.bool false)], args := [d] }
  | _ => none }
def MonthSumsWrongFalsely : Prop := monthSumsRow.holds Tryd.pinned (OpenSpec.ofChange monthSumsWrong)

/- THE SECOND FORM. 'bulk': how many values and letters a reading holds, each counted each time it is reached (what is shared counts as often as it is met; a slice's spare places count too). A statement '..UptoSaid' is the law's where the arguments, and the package variables that the reading takes, are together of bulk at most 1048576: NARROWER than '..Said'. Prove '..Said' where nothing that the law and all that it calls make is longer than what came in: it says more and counts as full. Else prove '..UptoSaid'. A law counts once. -/
mutual
def uptoBulk {H : Type} : DataW H → Nat
  | .lit (.string bytes) => bytes.length + 1
  | .lit _ => 1
  | .nil => 1
  | .ptr d => uptoBulk d + 1
  | .slice elems spare => uptoBulkAll elems + uptoBulkAll spare + 1
  | .agg parts => uptoBulkAll parts + 1
  | .iface _ d => uptoBulk d + 1
  | .map entries => uptoBulkEntries entries + 1
  | .held _ => 1
def uptoBulkAll {H : Type} : List (DataW H) → Nat
  | [] => 0
  | d :: r => uptoBulk d + uptoBulkAll r
def uptoBulkEntries {H : Type} : List (Lit × DataW H) → Nat
  | [] => 0
  | x :: r => uptoBulkEntry x + uptoBulkEntries r
def uptoBulkEntry {H : Type} : Lit × DataW H → Nat
  | (.string bytes, d) => bytes.length + uptoBulk d + 1
  | (_, d) => uptoBulk d + 1
 end
def uptoSmall : (H : Type) → List (DataW H) → Bool := fun _ ds => decide (uptoBulkAll ds ≤ 1048576)
def OpenSpec.upto (s : _root_.Go.ChangeSpec) : _root_.Go.OpenSpec := { _root_.Go.OpenSpec.ofChange s with cond := some uptoSmall }

/-- 'almanackerlaw07.KeviahTells', WHERE WHAT IT READS IS OF BULK AT MOST 1048576: true; the input reads as it did. -/
def keviahTellsUptoRow : OpenClaim := { program := "ytemkngkaaabghaadoor", sum := "babb5c273aa910b76eb480b695bab90aa8c0498817fc2b5a49e4191c78658710", func := "almanacker/almanackerlaw07.KeviahTells", spec := "keviahTells", inPlace := ["math/bits.Add64"], named := ["almanacker/keviah.types"], apart := false, laid := [("almanacker/keviah.types", laid_almanacker_keviah_types)], narrowed := true }
def KeviahTellsUptoSaid : Prop := keviahTellsUptoRow.holds Tryd.pinned (OpenSpec.upto keviahTellsSpec)

/-- 'almanackerlaw07.KeviahYears', WHERE WHAT IT READS IS OF BULK AT MOST 1048576: true; the input reads as it did. -/
def keviahYearsUptoRow : OpenClaim := { program := "ytemkngkaaabghaadoor", sum := "babb5c273aa910b76eb480b695bab90aa8c0498817fc2b5a49e4191c78658710", func := "almanacker/almanackerlaw07.KeviahYears", spec := "keviahYears", inPlace := ["math/bits.Add64"], named := ["almanacker/keviah.types"], apart := false, laid := [("almanacker/keviah.types", laid_almanacker_keviah_types)], narrowed := true }
def KeviahYearsUptoSaid : Prop := keviahYearsUptoRow.holds Tryd.pinned (OpenSpec.upto keviahYearsSpec)

/-- 'almanackerlaw07.KeviahNumbers', WHERE WHAT IT READS IS OF BULK AT MOST 1048576: true; the input reads as it did. -/
def keviahNumbersUptoRow : OpenClaim := { program := "ytemkngkaaabghaadoor", sum := "babb5c273aa910b76eb480b695bab90aa8c0498817fc2b5a49e4191c78658710", func := "almanacker/almanackerlaw07.KeviahNumbers", spec := "keviahNumbers", inPlace := ["math/bits.Add64"], named := ["almanacker/keviah.types"], apart := false, laid := [("almanacker/keviah.types", laid_almanacker_keviah_types)], narrowed := true }
def KeviahNumbersUptoSaid : Prop := keviahNumbersUptoRow.holds Tryd.pinned (OpenSpec.upto keviahNumbersSpec)

/-- 'almanackerlaw08.MonthTells', WHERE WHAT IT READS IS OF BULK AT MOST 1048576: true; the input reads as it did. -/
def monthTellsUptoRow : OpenClaim := { program := "ytemkngkaaabghaadoor", sum := "babb5c273aa910b76eb480b695bab90aa8c0498817fc2b5a49e4191c78658710", func := "almanacker/almanackerlaw08.MonthTells", spec := "monthTells", named := ["almanacker/month.lengths", "almanacker/keviah.types"], apart := false, laid := [("almanacker/keviah.types", laid_almanacker_keviah_types), ("almanacker/month.lengths", laid_almanacker_month_lengths)], narrowed := true }
def MonthTellsUptoSaid : Prop := monthTellsUptoRow.holds Tryd.pinned (OpenSpec.upto monthTellsSpec)

/-- 'almanackerlaw08.MonthSums', WHERE WHAT IT READS IS OF BULK AT MOST 1048576: true; the input reads as it did. -/
def monthSumsUptoRow : OpenClaim := { program := "ytemkngkaaabghaadoor", sum := "babb5c273aa910b76eb480b695bab90aa8c0498817fc2b5a49e4191c78658710", func := "almanacker/almanackerlaw08.MonthSums", spec := "monthSums", named := ["almanacker/keviah.types", "almanacker/month.lengths"], apart := false, laid := [("almanacker/keviah.types", laid_almanacker_keviah_types), ("almanacker/month.lengths", laid_almanacker_month_lengths)], narrowed := true }
def MonthSumsUptoSaid : Prop := monthSumsUptoRow.holds Tryd.pinned (OpenSpec.upto monthSumsSpec)

end Rows
end Go.Proofs.YtemkngkaaabghaaDoor
