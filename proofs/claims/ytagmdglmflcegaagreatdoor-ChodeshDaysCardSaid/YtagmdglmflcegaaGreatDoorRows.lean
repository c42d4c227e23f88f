/-
  NARROWER THAN 'FOR EVERY INPUT', by the rows' own cells (each row's printed sentence says how): NameTells: laid · ChodeshTells: laid · ChodeshDays: laid · ChodeshOmer: laid · SpecialTells: laid.
  DERIVED. THE GIVEN ROWS OF THIS SEAT. 5 by the template 'for every input the law returns true; each argument reads behind the call as it read before'; 0 by the template 'total and deterministic' (their statements: YtagmdglmflcegaaGreatDoorTotals.lean).
  GIVEN WITH THE SEED: the statements are not yours to turn. If you find one false, say at which input.
  Laid BY PROGRAM, IN A SANDBOX (cutbox-rows.mjs): the forced cells as the released guide's own fill.sh prints them over the translation 67cb5ba494aaa05e… (all of the seat's roots in one cut). By AI agents, Wed Nov 11 2026. No macro, syntax, notation, axiom, sorry.
-/
import Derived.Test.YtagmdglmflcegaaGreatDoorChecked
import GoSem.Claim
import GoSem.ClaimJoined
import GoSem.ClaimMapViews
import Derived.JoinedTies
import Derived.KernelRfl
namespace Go.Proofs.YtagmdglmflcegaaGreatDoor
/- THE CELL 'sum', in the pinned program and in every row, IS THE sha256 OF THE DUMP (.gsa) THAT YtagmdglmflcegaaGreatDoorProg.lean LOADS. Nothing in Lean hashes anything: it is a label: what it is worth is what the hold of that sum in a sandbox is worth. -/
noncomputable def Tryz.pinned : Pinned := { name := "ytagmdglmflcegaagreatdoor", sum := "67cb5ba494aaa05ee2933b12aec88b5b7decddb0f9303e17cc4f6de71bda7b1b", checked := Tryz.checked }
namespace Rows
def none {H : Type} : Left H := { results := [], args := [] }

/- WHAT THE LISTED PACKAGE-LEVEL VARIABLES READ AS WHEN THE CALL BEGINS. Each datum BY PROGRAM (the guide's laid-datum.mjs) off the statement by which the dump's own 'gosem.cut.vars' lays the variable. In a bare row this is a premise. The card (YtagmdglmflcegaaGreatDoorCards.lean) ties it to the program's text. -/
def laid_math_bits_deBruijn32tab {H : Type} : DataW H := .agg [.lit (.int .u8 0), .lit (.int .u8 1), .lit (.int .u8 28), .lit (.int .u8 2), .lit (.int .u8 29), .lit (.int .u8 14), .lit (.int .u8 24), .lit (.int .u8 3), .lit (.int .u8 30), .lit (.int .u8 22), .lit (.int .u8 20), .lit (.int .u8 15), .lit (.int .u8 25), .lit (.int .u8 17), .lit (.int .u8 4), .lit (.int .u8 8), .lit (.int .u8 31), .lit (.int .u8 27), .lit (.int .u8 13), .lit (.int .u8 23), .lit (.int .u8 21), .lit (.int .u8 19), .lit (.int .u8 16), .lit (.int .u8 7), .lit (.int .u8 26), .lit (.int .u8 12), .lit (.int .u8 18), .lit (.int .u8 6), .lit (.int .u8 11), .lit (.int .u8 5), .lit (.int .u8 10), .lit (.int .u8 9)]
def laid_math_bits_deBruijn64tab {H : Type} : DataW H := .agg [.lit (.int .u8 0), .lit (.int .u8 1), .lit (.int .u8 56), .lit (.int .u8 2), .lit (.int .u8 57), .lit (.int .u8 49), .lit (.int .u8 28), .lit (.int .u8 3), .lit (.int .u8 61), .lit (.int .u8 58), .lit (.int .u8 42), .lit (.int .u8 50), .lit (.int .u8 38), .lit (.int .u8 29), .lit (.int .u8 17), .lit (.int .u8 4), .lit (.int .u8 62), .lit (.int .u8 47), .lit (.int .u8 59), .lit (.int .u8 36), .lit (.int .u8 45), .lit (.int .u8 43), .lit (.int .u8 51), .lit (.int .u8 22), .lit (.int .u8 53), .lit (.int .u8 39), .lit (.int .u8 33), .lit (.int .u8 30), .lit (.int .u8 24), .lit (.int .u8 18), .lit (.int .u8 12), .lit (.int .u8 5), .lit (.int .u8 63), .lit (.int .u8 55), .lit (.int .u8 48), .lit (.int .u8 27), .lit (.int .u8 60), .lit (.int .u8 41), .lit (.int .u8 37), .lit (.int .u8 16), .lit (.int .u8 46), .lit (.int .u8 35), .lit (.int .u8 44), .lit (.int .u8 21), .lit (.int .u8 52), .lit (.int .u8 32), .lit (.int .u8 23), .lit (.int .u8 11), .lit (.int .u8 54), .lit (.int .u8 26), .lit (.int .u8 40), .lit (.int .u8 15), .lit (.int .u8 34), .lit (.int .u8 20), .lit (.int .u8 31), .lit (.int .u8 10), .lit (.int .u8 25), .lit (.int .u8 14), .lit (.int .u8 19), .lit (.int .u8 9), .lit (.int .u8 13), .lit (.int .u8 8), .lit (.int .u8 7), .lit (.int .u8 6)]
def laid_almanacker_keviah_types {H : Type} : DataW H := .agg [.agg [.lit (.int .i64 1), .lit (.int .i64 0), .lit (.bool false)], .agg [.lit (.int .i64 1), .lit (.int .i64 2), .lit (.bool false)], .agg [.lit (.int .i64 2), .lit (.int .i64 1), .lit (.bool false)], .agg [.lit (.int .i64 4), .lit (.int .i64 1), .lit (.bool false)], .agg [.lit (.int .i64 4), .lit (.int .i64 2), .lit (.bool false)], .agg [.lit (.int .i64 6), .lit (.int .i64 0), .lit (.bool false)], .agg [.lit (.int .i64 6), .lit (.int .i64 2), .lit (.bool false)], .agg [.lit (.int .i64 1), .lit (.int .i64 0), .lit (.bool true)], .agg [.lit (.int .i64 1), .lit (.int .i64 2), .lit (.bool true)], .agg [.lit (.int .i64 2), .lit (.int .i64 1), .lit (.bool true)], .agg [.lit (.int .i64 4), .lit (.int .i64 0), .lit (.bool true)], .agg [.lit (.int .i64 4), .lit (.int .i64 2), .lit (.bool true)], .agg [.lit (.int .i64 6), .lit (.int .i64 0), .lit (.bool true)], .agg [.lit (.int .i64 6), .lit (.int .i64 2), .lit (.bool true)]]
def laid_almanacker_month_lengths {H : Type} : DataW H := .agg [.lit (.int .i64 30), .lit (.int .i64 29), .lit (.int .i64 30), .lit (.int .i64 29), .lit (.int .i64 30), .lit (.int .i64 30), .lit (.int .i64 29), .lit (.int .i64 30), .lit (.int .i64 29), .lit (.int .i64 30), .lit (.int .i64 29), .lit (.int .i64 30), .lit (.int .i64 29)]
def laid_internal_strconv_uint64pow10 {H : Type} : DataW H := .agg [.lit (.int .u64 1), .lit (.int .u64 10), .lit (.int .u64 100), .lit (.int .u64 1000), .lit (.int .u64 10000), .lit (.int .u64 100000), .lit (.int .u64 1000000), .lit (.int .u64 10000000), .lit (.int .u64 100000000), .lit (.int .u64 1000000000), .lit (.int .u64 10000000000), .lit (.int .u64 100000000000), .lit (.int .u64 1000000000000), .lit (.int .u64 10000000000000), .lit (.int .u64 100000000000000), .lit (.int .u64 1000000000000000), .lit (.int .u64 10000000000000000), .lit (.int .u64 100000000000000000), .lit (.int .u64 1000000000000000000), .lit (.int .u64 10000000000000000000)]
def laid_almanacker_name_names {H : Type} : DataW H := .agg [.lit (.string [84, 105, 115, 104, 114, 105]), .lit (.string [72, 101, 115, 104, 118, 97, 110]), .lit (.string [75, 105, 115, 108, 101, 118]), .lit (.string [84, 101, 118, 101, 116]), .lit (.string [83, 104, 101, 118, 97, 116]), .lit (.string [65, 100, 97, 114]), .lit (.string [78, 105, 115, 97, 110]), .lit (.string [73, 121, 97, 114]), .lit (.string [83, 105, 118, 97, 110]), .lit (.string [84, 97, 109, 109, 117, 122]), .lit (.string [65, 118]), .lit (.string [69, 108, 117, 108])]

/-- 'almanackerlaw14.NameTells': WHATEVER THE INPUT: true; the input reads as it did. -/
def nameTellsSpec : ChangeSpec := { name := "nameTells", fn := fun _ => fun
  | [d1, d2] => { results := [.lit (.bool true)], args := [d1, d2] }
  | _ => none }
def nameTellsRow : OpenClaim := { program := "ytagmdglmflcegaagreatdoor", sum := "67cb5ba494aaa05ee2933b12aec88b5b7decddb0f9303e17cc4f6de71bda7b1b", func := "almanacker/almanackerlaw14.NameTells", spec := "nameTells", inPlace := ["internal/bytealg.IndexByteString", "internal/bytealg.IndexString", "math/bits.Add64"], named := ["internal/bytealg.MaxLen", "almanacker/name.names", "almanacker/keviah.types", "almanacker/month.lengths", "internal/strconv.uint64pow10", "math/bits.deBruijn32tab", "math/bits.deBruijn64tab"], apart := false, laid := [("math/bits.deBruijn32tab", laid_math_bits_deBruijn32tab), ("math/bits.deBruijn64tab", laid_math_bits_deBruijn64tab), ("almanacker/keviah.types", laid_almanacker_keviah_types), ("almanacker/month.lengths", laid_almanacker_month_lengths), ("internal/strconv.uint64pow10", laid_internal_strconv_uint64pow10), ("almanacker/name.names", laid_almanacker_name_names)] }
def NameTellsSaid : Prop := nameTellsRow.holds Tryz.pinned (OpenSpec.ofChange nameTellsSpec)

/-- ITS FALSE NEIGHBOUR: 'it returns false'. Refute it at one input. -/
def nameTellsWrong : ChangeSpec := { name := "nameTells", fn := fun _ => fun
  | [d1, d2] => { results := [.lit (.bool false)], args := [d1, d2] }
  | _ => none }
def NameTellsWrongFalsely : Prop := nameTellsRow.holds Tryz.pinned (OpenSpec.ofChange nameTellsWrong)

/-- 'almanackerlaw21.ChodeshTells': WHATEVER THE INPUT: true; the input reads as it did. -/
def chodeshTellsSpec : ChangeSpec := { name := "chodeshTells", fn := fun _ => fun
  | [d1, d2, d3] => { results := [.lit (.bool true)], args := [d1, d2, d3] }
  | _ => none }
def chodeshTellsRow : OpenClaim := { program := "ytagmdglmflcegaagreatdoor", sum := "67cb5ba494aaa05ee2933b12aec88b5b7decddb0f9303e17cc4f6de71bda7b1b", func := "almanacker/almanackerlaw21.ChodeshTells", spec := "chodeshTells", inPlace := ["math/bits.Add64"], unfollowed := true, recurses := true, named := ["almanacker/keviah.types", "almanacker/month.lengths"], apart := false, laid := [("almanacker/keviah.types", laid_almanacker_keviah_types), ("almanacker/month.lengths", laid_almanacker_month_lengths)] }
def ChodeshTellsSaid : Prop := chodeshTellsRow.holds Tryz.pinned (OpenSpec.ofChange chodeshTellsSpec)

/-- ITS FALSE NEIGHBOUR: 'it returns false'. Refute it at one input. -/
def chodeshTellsWrong : ChangeSpec := { name := "chodeshTells", fn := fun _ => fun
  | [d1, d2, d3] => { results := [.lit (.bool false)], args := [d1, d2, d3] }
  | _ => none }
def ChodeshTellsWrongFalsely : Prop := chodeshTellsRow.holds Tryz.pinned (OpenSpec.ofChange chodeshTellsWrong)

/-- 'almanackerlaw21.ChodeshDays': WHATEVER THE INPUT: true; the input reads as it did. -/
def chodeshDaysSpec : ChangeSpec := { name := "chodeshDays", fn := fun _ => fun
  | [d] => { results := [.lit (.bool true)], args := [d] }
  | _ => none }
def chodeshDaysRow : OpenClaim := { program := "ytagmdglmflcegaagreatdoor", sum := "67cb5ba494aaa05ee2933b12aec88b5b7decddb0f9303e17cc4f6de71bda7b1b", func := "almanacker/almanackerlaw21.ChodeshDays", spec := "chodeshDays", inPlace := ["math/bits.Add64"], unfollowed := true, recurses := true, named := ["almanacker/keviah.types", "almanacker/month.lengths"], apart := false, laid := [("almanacker/keviah.types", laid_almanacker_keviah_types), ("almanacker/month.lengths", laid_almanacker_month_lengths)] }
def ChodeshDaysSaid : Prop := chodeshDaysRow.holds Tryz.pinned (OpenSpec.ofChange chodeshDaysSpec)

/-- ITS FALSE NEIGHBOUR: 'it returns false'. Refute it at one input. -/
def chodeshDaysWrong : ChangeSpec := { name := "chodeshDays", fn := fun _ => fun
  | [d] => { results := [.lit (.bool false)], args := [d] }
  | _ => none }
def ChodeshDaysWrongFalsely : Prop := chodeshDaysRow.holds Tryz.pinned (OpenSpec.ofChange chodeshDaysWrong)

/-- 'almanackerlaw21.ChodeshOmer': WHATEVER THE INPUT: true; the input reads as it did. -/
def chodeshOmerSpec : ChangeSpec := { name := "chodeshOmer", fn := fun _ => fun
  | [d1, d2] => { results := [.lit (.bool true)], args := [d1, d2] }
  | _ => none }
def chodeshOmerRow : OpenClaim := { program := "ytagmdglmflcegaagreatdoor", sum := "67cb5ba494aaa05ee2933b12aec88b5b7decddb0f9303e17cc4f6de71bda7b1b", func := "almanacker/almanackerlaw21.ChodeshOmer", spec := "chodeshOmer", inPlace := ["math/bits.Add64"], unfollowed := true, recurses := true, named := ["almanacker/keviah.types", "almanacker/month.lengths"], apart := false, laid := [("almanacker/keviah.types", laid_almanacker_keviah_types), ("almanacker/month.lengths", laid_almanacker_month_lengths)] }
def ChodeshOmerSaid : Prop := chodeshOmerRow.holds Tryz.pinned (OpenSpec.ofChange chodeshOmerSpec)

/-- ITS FALSE NEIGHBOUR: 'it returns false'. Refute it at one input. -/
def chodeshOmerWrong : ChangeSpec := { name := "chodeshOmer", fn := fun _ => fun
  | [d1, d2] => { results := [.lit (.bool false)], args := [d1, d2] }
  | _ => none }
def ChodeshOmerWrongFalsely : Prop := chodeshOmerRow.holds Tryz.pinned (OpenSpec.ofChange chodeshOmerWrong)

/-- 'almanackerlaw22.SpecialTells': WHATEVER THE INPUT: true; the input reads as it did. -/
def specialTellsSpec : ChangeSpec := { name := "specialTells", fn := fun _ => fun
  | [d1, d2] => { results := [.lit (.bool true)], args := [d1, d2] }
  | _ => none }
def specialTellsRow : OpenClaim := { program := "ytagmdglmflcegaagreatdoor", sum := "67cb5ba494aaa05ee2933b12aec88b5b7decddb0f9303e17cc4f6de71bda7b1b", func := "almanacker/almanackerlaw22.SpecialTells", spec := "specialTells", inPlace := ["math/bits.Add64"], unfollowed := true, recurses := true, named := ["almanacker/keviah.types", "almanacker/month.lengths"], apart := false, laid := [("almanacker/keviah.types", laid_almanacker_keviah_types), ("almanacker/month.lengths", laid_almanacker_month_lengths)] }
def SpecialTellsSaid : Prop := specialTellsRow.holds Tryz.pinned (OpenSpec.ofChange specialTellsSpec)

/-- ITS FALSE NEIGHBOUR: 'it returns false'. Refute it at one input. -/
def specialTellsWrong : ChangeSpec := { name := "specialTells", fn := fun _ => fun
  | [d1, d2] => { results := [.lit (.bool false)], args := [d1, d2] }
  | _ => none }
def SpecialTellsWrongFalsely : Prop := specialTellsRow.holds Tryz.pinned (OpenSpec.ofChange specialTellsWrong)

/- THE SECOND FORM. 'bulk': how many values and letters a reading holds, each counted each time it is reached (what is shared counts as often as it is met; a slice's spare places count too). A statement '..UptoSaid' is the law's where the arguments, and the package variables that the reading takes, are together of bulk at most 1048576: NARROWER than '..Said'. Prove '..Said' where nothing that the law and all that it calls make is longer than what came in: it says more and counts as full. Else prove '..UptoSaid'. A law counts once. -/
mutual
def uptoBulk {H : Type} : DataW H → Nat
  | .lit (.string bytes) => bytes.length + 1
  | .lit _ => 1
  | .nil => 1
  | .ptr d => uptoBulk d + 1
  | .slice elems spare => uptoBulkAll elems + uptoBulkAll spare + 1
  | .agg parts => uptoBulkAll parts + 1
  | .iface _ d => uptoBulk d + 1
  | .map entries => uptoBulkEntries entries + 1
  | .held _ => 1
def uptoBulkAll {H : Type} : List (DataW H) → Nat
  | [] => 0
  | d :: r => uptoBulk d + uptoBulkAll r
def uptoBulkEntries {H : Type} : List (Lit × DataW H) → Nat
  | [] => 0
  | x :: r => uptoBulkEntry x + uptoBulkEntries r
def uptoBulkEntry {H : Type} : Lit × DataW H → Nat
  | (.string bytes, d) => bytes.length + uptoBulk d + 1
  | (_, d) => uptoBulk d + 1
 end
def uptoSmall : (H : Type) → List (DataW H) → Bool := fun _ ds => decide (uptoBulkAll ds ≤ 1048576)
def OpenSpec.upto (s : _root_.Go.ChangeSpec) : _root_.Go.OpenSpec := { _root_.Go.OpenSpec.ofChange s with cond := some uptoSmall }

/-- 'almanackerlaw14.NameTells', WHERE WHAT IT READS IS OF BULK AT MOST 1048576: true; the input reads as it did. -/
def nameTellsUptoRow : OpenClaim := { program := "ytagmdglmflcegaagreatdoor", sum := "67cb5ba494aaa05ee2933b12aec88b5b7decddb0f9303e17cc4f6de71bda7b1b", func := "almanacker/almanackerlaw14.NameTells", spec := "nameTells", inPlace := ["internal/bytealg.IndexByteString", "internal/bytealg.IndexString", "math/bits.Add64"], named := ["internal/bytealg.MaxLen", "almanacker/name.names", "almanacker/keviah.types", "almanacker/month.lengths", "internal/strconv.uint64pow10", "math/bits.deBruijn32tab", "math/bits.deBruijn64tab"], apart := false, laid := [("math/bits.deBruijn32tab", laid_math_bits_deBruijn32tab), ("math/bits.deBruijn64tab", laid_math_bits_deBruijn64tab), ("almanacker/keviah.types", laid_almanacker_keviah_types), ("almanacker/month.lengths", laid_almanacker_month_lengths), ("internal/strconv.uint64pow10", laid_internal_strconv_uint64pow10), ("almanacker/name.names", laid_almanacker_name_names)], narrowed := true }
def NameTellsUptoSaid : Prop := nameTellsUptoRow.holds Tryz.pinned (OpenSpec.upto nameTellsSpec)

/-- 'almanackerlaw21.ChodeshTells', WHERE WHAT IT READS IS OF BULK AT MOST 1048576: true; the input reads as it did. -/
def chodeshTellsUptoRow : OpenClaim := { program := "ytagmdglmflcegaagreatdoor", sum := "67cb5ba494aaa05ee2933b12aec88b5b7decddb0f9303e17cc4f6de71bda7b1b", func := "almanacker/almanackerlaw21.ChodeshTells", spec := "chodeshTells", inPlace := ["math/bits.Add64"], unfollowed := true, recurses := true, named := ["almanacker/keviah.types", "almanacker/month.lengths"], apart := false, laid := [("almanacker/keviah.types", laid_almanacker_keviah_types), ("almanacker/month.lengths", laid_almanacker_month_lengths)], narrowed := true }
def ChodeshTellsUptoSaid : Prop := chodeshTellsUptoRow.holds Tryz.pinned (OpenSpec.upto chodeshTellsSpec)

/-- 'almanackerlaw21.ChodeshDays', WHERE WHAT IT READS IS OF BULK AT MOST 1048576: true; the input reads as it did. -/
def chodeshDaysUptoRow : OpenClaim := { program := "ytagmdglmflcegaagreatdoor", sum := "67cb5ba494aaa05ee2933b12aec88b5b7decddb0f9303e17cc4f6de71bda7b1b", func := "almanacker/almanackerlaw21.ChodeshDays", spec := "chodeshDays", inPlace := ["math/bits.Add64"], unfollowed := true, recurses := true, named := ["almanacker/keviah.types", "almanacker/month.lengths"], apart := false, laid := [("almanacker/keviah.types", laid_almanacker_keviah_types), ("almanacker/month.lengths", laid_almanacker_month_lengths)], narrowed := true }
def ChodeshDaysUptoSaid : Prop := chodeshDaysUptoRow.holds Tryz.pinned (OpenSpec.upto chodeshDaysSpec)

/-- 'almanackerlaw21.ChodeshOmer', WHERE WHAT IT READS IS OF BULK AT MOST 1048576: true; the input reads as it did. -/
def chodeshOmerUptoRow : OpenClaim := { program := "ytagmdglmflcegaagreatdoor", sum := "67cb5ba494aaa05ee2933b12aec88b5b7decddb0f9303e17cc4f6de71bda7b1b", func := "almanacker/almanackerlaw21.ChodeshOmer", spec := "chodeshOmer", inPlace := ["math/bits.Add64"], unfollowed := true, recurses := true, named := ["almanacker/keviah.types", "almanacker/month.lengths"], apart := false, laid := [("almanacker/keviah.types", laid_almanacker_keviah_types), ("almanacker/month.lengths", laid_almanacker_month_lengths)], narrowed := true }
def ChodeshOmerUptoSaid : Prop := chodeshOmerUptoRow.holds Tryz.pinned (OpenSpec.upto chodeshOmerSpec)

/-- 'almanackerlaw22.SpecialTells', WHERE WHAT IT READS IS OF BULK AT MOST 1048576: true; the input reads as it did. -/
def specialTellsUptoRow : OpenClaim := { program := "ytagmdglmflcegaagreatdoor", sum := "67cb5ba494aaa05ee2933b12aec88b5b7decddb0f9303e17cc4f6de71bda7b1b", func := "almanacker/almanackerlaw22.SpecialTells", spec := "specialTells", inPlace := ["math/bits.Add64"], unfollowed := true, recurses := true, named := ["almanacker/keviah.types", "almanacker/month.lengths"], apart := false, laid := [("almanacker/keviah.types", laid_almanacker_keviah_types), ("almanacker/month.lengths", laid_almanacker_month_lengths)], narrowed := true }
def SpecialTellsUptoSaid : Prop := specialTellsUptoRow.holds Tryz.pinned (OpenSpec.upto specialTellsSpec)

end Rows
end Go.Proofs.YtagmdglmflcegaaGreatDoor
