/-
  NARROWER THAN 'FOR EVERY INPUT', by the rows' own cells (each row's printed sentence says how): TextTells: laid · TextBack: laid · NameTells: laid · AddTells: laid · UntilTells: laid · UntilBack: laid · UntilMost: laid.
  DERIVED. THE GIVEN ROWS OF THIS SEAT. 7 by the template 'for every input the law returns true; each argument reads behind the call as it read before'; 0 by the template 'total and deterministic' (their statements: YtafenpgafmdenaaGreatDoorTotals.lean).
  GIVEN WITH THE SEED: the statements are not yours to turn. If you find one false, say at which input.
  Laid BY PROGRAM, IN A SANDBOX (cutbox-rows.mjs): the forced cells as the released guide's own fill.sh prints them over the translation 045b86d81523eaaf… (all of the seat's roots in one cut). By AI agents, Wed Nov 11 2026. No macro, syntax, notation, axiom, sorry.
-/
import Derived.Test.YtafenpgafmdenaaGreatDoorChecked
import GoSem.PinnedTables
import GoSem.Claim
import GoSem.ClaimJoined
import GoSem.ClaimMapViews
import Derived.JoinedTies
import Derived.KernelRfl
namespace Go.Proofs.YtafenpgafmdenaaGreatDoor
/- THE CELL 'sum', in the pinned program and in every row, IS THE sha256 OF THE DUMP (.gsa) THAT YtafenpgafmdenaaGreatDoorProg.lean LOADS. Nothing in Lean hashes anything: it is a label: what it is worth is what the hold of that sum in a sandbox is worth. -/
noncomputable def Tryz.pinned : Pinned := { name := "ytafenpgafmdenaagreatdoor", sum := "045b86d81523eaafa0cae53447c17253d3be828b28edcf1cd420abb66617fca9", checked := Tryz.checked }
namespace Rows
def none {H : Type} : Left H := { results := [], args := [] }

/- WHAT THE LISTED PACKAGE-LEVEL VARIABLES READ AS WHEN THE CALL BEGINS. Each datum BY PROGRAM (the guide's laid-datum.mjs) off the statement by which the dump's own 'gosem.cut.vars' lays the variable. In a bare row this is a premise. The card (YtafenpgafmdenaaGreatDoorCards.lean) ties it to the program's text. -/
def laid_almanacker_keviah_types {H : Type} : DataW H := .agg [.agg [.lit (.int .i64 1), .lit (.int .i64 0), .lit (.bool false)], .agg [.lit (.int .i64 1), .lit (.int .i64 2), .lit (.bool false)], .agg [.lit (.int .i64 2), .lit (.int .i64 1), .lit (.bool false)], .agg [.lit (.int .i64 4), .lit (.int .i64 1), .lit (.bool false)], .agg [.lit (.int .i64 4), .lit (.int .i64 2), .lit (.bool false)], .agg [.lit (.int .i64 6), .lit (.int .i64 0), .lit (.bool false)], .agg [.lit (.int .i64 6), .lit (.int .i64 2), .lit (.bool false)], .agg [.lit (.int .i64 1), .lit (.int .i64 0), .lit (.bool true)], .agg [.lit (.int .i64 1), .lit (.int .i64 2), .lit (.bool true)], .agg [.lit (.int .i64 2), .lit (.int .i64 1), .lit (.bool true)], .agg [.lit (.int .i64 4), .lit (.int .i64 0), .lit (.bool true)], .agg [.lit (.int .i64 4), .lit (.int .i64 2), .lit (.bool true)], .agg [.lit (.int .i64 6), .lit (.int .i64 0), .lit (.bool true)], .agg [.lit (.int .i64 6), .lit (.int .i64 2), .lit (.bool true)]]
def laid_almanacker_month_lengths {H : Type} : DataW H := .agg [.lit (.int .i64 30), .lit (.int .i64 29), .lit (.int .i64 30), .lit (.int .i64 29), .lit (.int .i64 30), .lit (.int .i64 30), .lit (.int .i64 29), .lit (.int .i64 30), .lit (.int .i64 29), .lit (.int .i64 30), .lit (.int .i64 29), .lit (.int .i64 30), .lit (.int .i64 29)]
def laid_unicode_utf8_acceptRanges {H : Type} : DataW H := .agg [.agg [.lit (.int .u8 128), .lit (.int .u8 191)], .agg [.lit (.int .u8 160), .lit (.int .u8 191)], .agg [.lit (.int .u8 128), .lit (.int .u8 159)], .agg [.lit (.int .u8 144), .lit (.int .u8 191)], .agg [.lit (.int .u8 128), .lit (.int .u8 143)], .agg [.lit (.int .u8 0), .lit (.int .u8 0)], .agg [.lit (.int .u8 0), .lit (.int .u8 0)], .agg [.lit (.int .u8 0), .lit (.int .u8 0)], .agg [.lit (.int .u8 0), .lit (.int .u8 0)], .agg [.lit (.int .u8 0), .lit (.int .u8 0)], .agg [.lit (.int .u8 0), .lit (.int .u8 0)], .agg [.lit (.int .u8 0), .lit (.int .u8 0)], .agg [.lit (.int .u8 0), .lit (.int .u8 0)], .agg [.lit (.int .u8 0), .lit (.int .u8 0)], .agg [.lit (.int .u8 0), .lit (.int .u8 0)], .agg [.lit (.int .u8 0), .lit (.int .u8 0)]]
def laid_almanacker_greg_lengths {H : Type} : DataW H := .agg [.lit (.int .i64 31), .lit (.int .i64 28), .lit (.int .i64 31), .lit (.int .i64 30), .lit (.int .i64 31), .lit (.int .i64 30), .lit (.int .i64 31), .lit (.int .i64 31), .lit (.int .i64 30), .lit (.int .i64 31), .lit (.int .i64 30), .lit (.int .i64 31)]
def laid_almanacker_text_powers {H : Type} : DataW H := .agg [.lit (.int .i64 1), .lit (.int .i64 10), .lit (.int .i64 100), .lit (.int .i64 1000)]
/-- One of Go's own tables, pinned by name: the form's constant. -/
def laid_unicode_utf8_first : DataW Unit := Go.Pinned.utf8First
def laid_math_bits_deBruijn32tab {H : Type} : DataW H := .agg [.lit (.int .u8 0), .lit (.int .u8 1), .lit (.int .u8 28), .lit (.int .u8 2), .lit (.int .u8 29), .lit (.int .u8 14), .lit (.int .u8 24), .lit (.int .u8 3), .lit (.int .u8 30), .lit (.int .u8 22), .lit (.int .u8 20), .lit (.int .u8 15), .lit (.int .u8 25), .lit (.int .u8 17), .lit (.int .u8 4), .lit (.int .u8 8), .lit (.int .u8 31), .lit (.int .u8 27), .lit (.int .u8 13), .lit (.int .u8 23), .lit (.int .u8 21), .lit (.int .u8 19), .lit (.int .u8 16), .lit (.int .u8 7), .lit (.int .u8 26), .lit (.int .u8 12), .lit (.int .u8 18), .lit (.int .u8 6), .lit (.int .u8 11), .lit (.int .u8 5), .lit (.int .u8 10), .lit (.int .u8 9)]
def laid_math_bits_deBruijn64tab {H : Type} : DataW H := .agg [.lit (.int .u8 0), .lit (.int .u8 1), .lit (.int .u8 56), .lit (.int .u8 2), .lit (.int .u8 57), .lit (.int .u8 49), .lit (.int .u8 28), .lit (.int .u8 3), .lit (.int .u8 61), .lit (.int .u8 58), .lit (.int .u8 42), .lit (.int .u8 50), .lit (.int .u8 38), .lit (.int .u8 29), .lit (.int .u8 17), .lit (.int .u8 4), .lit (.int .u8 62), .lit (.int .u8 47), .lit (.int .u8 59), .lit (.int .u8 36), .lit (.int .u8 45), .lit (.int .u8 43), .lit (.int .u8 51), .lit (.int .u8 22), .lit (.int .u8 53), .lit (.int .u8 39), .lit (.int .u8 33), .lit (.int .u8 30), .lit (.int .u8 24), .lit (.int .u8 18), .lit (.int .u8 12), .lit (.int .u8 5), .lit (.int .u8 63), .lit (.int .u8 55), .lit (.int .u8 48), .lit (.int .u8 27), .lit (.int .u8 60), .lit (.int .u8 41), .lit (.int .u8 37), .lit (.int .u8 16), .lit (.int .u8 46), .lit (.int .u8 35), .lit (.int .u8 44), .lit (.int .u8 21), .lit (.int .u8 52), .lit (.int .u8 32), .lit (.int .u8 23), .lit (.int .u8 11), .lit (.int .u8 54), .lit (.int .u8 26), .lit (.int .u8 40), .lit (.int .u8 15), .lit (.int .u8 34), .lit (.int .u8 20), .lit (.int .u8 31), .lit (.int .u8 10), .lit (.int .u8 25), .lit (.int .u8 14), .lit (.int .u8 19), .lit (.int .u8 9), .lit (.int .u8 13), .lit (.int .u8 8), .lit (.int .u8 7), .lit (.int .u8 6)]
def laid_internal_strconv_uint64pow10 {H : Type} : DataW H := .agg [.lit (.int .u64 1), .lit (.int .u64 10), .lit (.int .u64 100), .lit (.int .u64 1000), .lit (.int .u64 10000), .lit (.int .u64 100000), .lit (.int .u64 1000000), .lit (.int .u64 10000000), .lit (.int .u64 100000000), .lit (.int .u64 1000000000), .lit (.int .u64 10000000000), .lit (.int .u64 100000000000), .lit (.int .u64 1000000000000), .lit (.int .u64 10000000000000), .lit (.int .u64 100000000000000), .lit (.int .u64 1000000000000000), .lit (.int .u64 10000000000000000), .lit (.int .u64 100000000000000000), .lit (.int .u64 1000000000000000000), .lit (.int .u64 10000000000000000000)]
def laid_almanacker_name_names {H : Type} : DataW H := .agg [.lit (.string [84, 105, 115, 104, 114, 105]), .lit (.string [72, 101, 115, 104, 118, 97, 110]), .lit (.string [75, 105, 115, 108, 101, 118]), .lit (.string [84, 101, 118, 101, 116]), .lit (.string [83, 104, 101, 118, 97, 116]), .lit (.string [65, 100, 97, 114]), .lit (.string [78, 105, 115, 97, 110]), .lit (.string [73, 121, 97, 114]), .lit (.string [83, 105, 118, 97, 110]), .lit (.string [84, 97, 109, 109, 117, 122]), .lit (.string [65, 118]), .lit (.string [69, 108, 117, 108])]

/-- 'almanackerlaw13.TextTells': WHATEVER THE INPUT: true; the input reads as it did. -/
def textTellsSpec : ChangeSpec := { name := "textTells", fn := fun _ => fun
  | [d1, d2, d3] => { results := [.lit (.bool true)], args := [d1, d2, d3] }
  | _ => none }
def textTellsRow : OpenClaim := { program := "ytafenpgafmdenaagreatdoor", sum := "045b86d81523eaafa0cae53447c17253d3be828b28edcf1cd420abb66617fca9", func := "almanacker/almanackerlaw13.TextTells", spec := "textTells", inPlace := ["internal/bytealg.CountString", "internal/bytealg.IndexByteString", "internal/bytealg.IndexString", "internal/abi.NoEscape", "internal/bytealg.MakeNoZero", "math/bits.Add64"], unfollowed := true, recurses := true, named := ["internal/bytealg.MaxLen", "unicode/utf8.first", "unicode/utf8.acceptRanges", "almanacker/keviah.types", "almanacker/month.lengths", "almanacker/greg.lengths", "almanacker/text.powers"], apart := false, laid := [("almanacker/keviah.types", laid_almanacker_keviah_types), ("almanacker/month.lengths", laid_almanacker_month_lengths), ("unicode/utf8.acceptRanges", laid_unicode_utf8_acceptRanges), ("almanacker/greg.lengths", laid_almanacker_greg_lengths), ("almanacker/text.powers", laid_almanacker_text_powers), ("unicode/utf8.first", laid_unicode_utf8_first)] }
def TextTellsSaid : Prop := textTellsRow.holds Tryz.pinned (OpenSpec.ofChange textTellsSpec)

/-- ITS FALSE NEIGHBOUR: 'it returns false'. Refute it at one input. -/
def textTellsWrong : ChangeSpec := { name := "textTells", fn := fun _ => fun
  | [d1, d2, d3] => { results := [.lit (.bool false)], args := [d1, d2, d3] }
  | _ => none }
def TextTellsWrongFalsely : Prop := textTellsRow.holds Tryz.pinned (OpenSpec.ofChange textTellsWrong)

/-- 'almanackerlaw13.TextBack': WHATEVER THE INPUT: true; the input reads as it did. -/
def textBackSpec : ChangeSpec := { name := "textBack", fn := fun _ => fun
  | [d1, d2, d3] => { results := [.lit (.bool true)], args := [d1, d2, d3] }
  | _ => none }
def textBackRow : OpenClaim := { program := "ytafenpgafmdenaagreatdoor", sum := "045b86d81523eaafa0cae53447c17253d3be828b28edcf1cd420abb66617fca9", func := "almanacker/almanackerlaw13.TextBack", spec := "textBack", inPlace := ["internal/bytealg.CountString", "internal/bytealg.IndexByteString", "internal/bytealg.IndexString", "internal/abi.NoEscape", "internal/bytealg.MakeNoZero", "math/bits.Add64"], unfollowed := true, recurses := true, named := ["internal/bytealg.MaxLen", "unicode/utf8.first", "unicode/utf8.acceptRanges", "almanacker/keviah.types", "almanacker/month.lengths", "almanacker/greg.lengths", "almanacker/text.powers"], apart := false, laid := [("almanacker/keviah.types", laid_almanacker_keviah_types), ("almanacker/month.lengths", laid_almanacker_month_lengths), ("unicode/utf8.acceptRanges", laid_unicode_utf8_acceptRanges), ("almanacker/greg.lengths", laid_almanacker_greg_lengths), ("almanacker/text.powers", laid_almanacker_text_powers), ("unicode/utf8.first", laid_unicode_utf8_first)] }
def TextBackSaid : Prop := textBackRow.holds Tryz.pinned (OpenSpec.ofChange textBackSpec)

/-- ITS FALSE NEIGHBOUR: 'it returns false'. Refute it at one input. -/
def textBackWrong : ChangeSpec := { name := "textBack", fn := fun _ => fun
  | [d1, d2, d3] => { results := [.lit (.bool false)], args := [d1, d2, d3] }
  | _ => none }
def TextBackWrongFalsely : Prop := textBackRow.holds Tryz.pinned (OpenSpec.ofChange textBackWrong)

/-- 'almanackerlaw14.NameTells': WHATEVER THE INPUT: true; the input reads as it did. -/
def nameTellsSpec : ChangeSpec := { name := "nameTells", fn := fun _ => fun
  | [d1, d2] => { results := [.lit (.bool true)], args := [d1, d2] }
  | _ => none }
def nameTellsRow : OpenClaim := { program := "ytafenpgafmdenaagreatdoor", sum := "045b86d81523eaafa0cae53447c17253d3be828b28edcf1cd420abb66617fca9", func := "almanacker/almanackerlaw14.NameTells", spec := "nameTells", inPlace := ["internal/bytealg.IndexByteString", "internal/bytealg.IndexString", "math/bits.Add64"], named := ["internal/bytealg.MaxLen", "almanacker/name.names", "almanacker/keviah.types", "almanacker/month.lengths", "internal/strconv.uint64pow10", "math/bits.deBruijn32tab", "math/bits.deBruijn64tab"], apart := false, laid := [("math/bits.deBruijn32tab", laid_math_bits_deBruijn32tab), ("math/bits.deBruijn64tab", laid_math_bits_deBruijn64tab), ("almanacker/keviah.types", laid_almanacker_keviah_types), ("almanacker/month.lengths", laid_almanacker_month_lengths), ("internal/strconv.uint64pow10", laid_internal_strconv_uint64pow10), ("almanacker/name.names", laid_almanacker_name_names)] }
def NameTellsSaid : Prop := nameTellsRow.holds Tryz.pinned (OpenSpec.ofChange nameTellsSpec)

/-- ITS FALSE NEIGHBOUR: 'it returns false'. Refute it at one input. -/
def nameTellsWrong : ChangeSpec := { name := "nameTells", fn := fun _ => fun
  | [d1, d2] => { results := [.lit (.bool false)], args := [d1, d2] }
  | _ => none }
def NameTellsWrongFalsely : Prop := nameTellsRow.holds Tryz.pinned (OpenSpec.ofChange nameTellsWrong)

/-- 'almanackerlaw16.AddTells': WHATEVER THE INPUT: true; the input reads as it did. -/
def addTellsSpec : ChangeSpec := { name := "addTells", fn := fun _ => fun
  | [d1, d2, d3] => { results := [.lit (.bool true)], args := [d1, d2, d3] }
  | _ => none }
def addTellsRow : OpenClaim := { program := "ytafenpgafmdenaagreatdoor", sum := "045b86d81523eaafa0cae53447c17253d3be828b28edcf1cd420abb66617fca9", func := "almanacker/almanackerlaw16.AddTells", spec := "addTells", inPlace := ["math/bits.Add64"], unfollowed := true, recurses := true, named := ["almanacker/keviah.types", "almanacker/month.lengths"], apart := false, laid := [("almanacker/keviah.types", laid_almanacker_keviah_types), ("almanacker/month.lengths", laid_almanacker_month_lengths)] }
def AddTellsSaid : Prop := addTellsRow.holds Tryz.pinned (OpenSpec.ofChange addTellsSpec)

/-- ITS FALSE NEIGHBOUR: 'it returns false'. Refute it at one input. -/
def addTellsWrong : ChangeSpec := { name := "addTells", fn := fun _ => fun
  | [d1, d2, d3] => { results := [.lit (.bool false)], args := [d1, d2, d3] }
  | _ => none }
def AddTellsWrongFalsely : Prop := addTellsRow.holds Tryz.pinned (OpenSpec.ofChange addTellsWrong)

/-- 'almanackerlaw17.UntilTells': WHATEVER THE INPUT: true; the input reads as it did. -/
def untilTellsSpec : ChangeSpec := { name := "untilTells", fn := fun _ => fun
  | [d1, d2, d3] => { results := [.lit (.bool true)], args := [d1, d2, d3] }
  | _ => none }
def untilTellsRow : OpenClaim := { program := "ytafenpgafmdenaagreatdoor", sum := "045b86d81523eaafa0cae53447c17253d3be828b28edcf1cd420abb66617fca9", func := "almanacker/almanackerlaw17.UntilTells", spec := "untilTells", inPlace := ["math/bits.Add64"], unfollowed := true, recurses := true, named := ["almanacker/keviah.types", "almanacker/month.lengths"], apart := false, laid := [("almanacker/keviah.types", laid_almanacker_keviah_types), ("almanacker/month.lengths", laid_almanacker_month_lengths)] }
def UntilTellsSaid : Prop := untilTellsRow.holds Tryz.pinned (OpenSpec.ofChange untilTellsSpec)

/-- ITS FALSE NEIGHBOUR: 'it returns false'. Refute it at one input. -/
def untilTellsWrong : ChangeSpec := { name := "untilTells", fn := fun _ => fun
  | [d1, d2, d3] => { results := [.lit (.bool false)], args := [d1, d2, d3] }
  | _ => none }
def UntilTellsWrongFalsely : Prop := untilTellsRow.holds Tryz.pinned (OpenSpec.ofChange untilTellsWrong)

/-- 'almanackerlaw17.UntilBack': WHATEVER THE INPUT: true; the input reads as it did. -/
def untilBackSpec : ChangeSpec := { name := "untilBack", fn := fun _ => fun
  | [d1, d2, d3] => { results := [.lit (.bool true)], args := [d1, d2, d3] }
  | _ => none }
def untilBackRow : OpenClaim := { program := "ytafenpgafmdenaagreatdoor", sum := "045b86d81523eaafa0cae53447c17253d3be828b28edcf1cd420abb66617fca9", func := "almanacker/almanackerlaw17.UntilBack", spec := "untilBack", inPlace := ["math/bits.Add64"], unfollowed := true, recurses := true, named := ["almanacker/keviah.types", "almanacker/month.lengths"], apart := false, laid := [("almanacker/keviah.types", laid_almanacker_keviah_types), ("almanacker/month.lengths", laid_almanacker_month_lengths)] }
def UntilBackSaid : Prop := untilBackRow.holds Tryz.pinned (OpenSpec.ofChange untilBackSpec)

/-- ITS FALSE NEIGHBOUR: 'it returns false'. Refute it at one input. -/
def untilBackWrong : ChangeSpec := { name := "untilBack", fn := fun _ => fun
  | [d1, d2, d3] => { results := [.lit (.bool false)], args := [d1, d2, d3] }
  | _ => none }
def UntilBackWrongFalsely : Prop := untilBackRow.holds Tryz.pinned (OpenSpec.ofChange untilBackWrong)

/-- 'almanackerlaw17.UntilMost': WHATEVER THE INPUT: true; the input reads as it did. -/
def untilMostSpec : ChangeSpec := { name := "untilMost", fn := fun _ => fun
  | [d1, d2, d3] => { results := [.lit (.bool true)], args := [d1, d2, d3] }
  | _ => none }
def untilMostRow : OpenClaim := { program := "ytafenpgafmdenaagreatdoor", sum := "045b86d81523eaafa0cae53447c17253d3be828b28edcf1cd420abb66617fca9", func := "almanacker/almanackerlaw17.UntilMost", spec := "untilMost", inPlace := ["math/bits.Add64"], unfollowed := true, recurses := true, named := ["almanacker/keviah.types", "almanacker/month.lengths"], apart := false, laid := [("almanacker/keviah.types", laid_almanacker_keviah_types), ("almanacker/month.lengths", laid_almanacker_month_lengths)] }
def UntilMostSaid : Prop := untilMostRow.holds Tryz.pinned (OpenSpec.ofChange untilMostSpec)

/-- ITS FALSE NEIGHBOUR: 'it returns false'. Refute it at one input. -/
def untilMostWrong : ChangeSpec := { name := "untilMost", fn := fun _ => fun
  | [d1, d2, d3] => { results := [.lit (.bool false)], args := [d1, d2, d3] }
  | _ => none }
def UntilMostWrongFalsely : Prop := untilMostRow.holds Tryz.pinned (OpenSpec.ofChange untilMostWrong)

/- THE SECOND FORM. 'bulk': how many values and letters a reading holds, each counted each time it is reached (what is shared counts as often as it is met; a slice's spare places count too). A statement '..UptoSaid' is the law's where the arguments, and the package variables that the reading takes, are together of bulk at most 1048576: NARROWER than '..Said'. Prove '..Said' where nothing that the law and all that it calls make is longer than what came in: it says more and counts as full. Else prove '..UptoSaid'. A law counts once. -/
mutual
def uptoBulk {H : Type} : DataW H → Nat
  | .lit (.string bytes) => bytes.length + 1
  | .lit _ => 1
  | .nil => 1
  | .ptr d => uptoBulk d + 1
  | .slice elems spare => uptoBulkAll elems + uptoBulkAll spare + 1
  | .agg parts => uptoBulkAll parts + 1
  | .iface _ d => uptoBulk d + 1
  | .map entries => uptoBulkEntries entries + 1
  | .held _ => 1
def uptoBulkAll {H : Type} : List (DataW H) → Nat
  | [] => 0
  | d :: r => uptoBulk d + uptoBulkAll r
def uptoBulkEntries {H : Type} : List (Lit × DataW H) → Nat
  | [] => 0
  | x :: r => uptoBulkEntry x + uptoBulkEntries r
def uptoBulkEntry {H : Type} : Lit × DataW H → Nat
  | (.string bytes, d) => bytes.length + uptoBulk d + 1
  | (_, d) => uptoBulk d + 1
 end
def uptoSmall : (H : Type) → List (DataW H) → Bool := fun _ ds => decide (uptoBulkAll ds ≤ 1048576)
def OpenSpec.upto (s : _root_.Go.ChangeSpec) : _root_.Go.OpenSpec := { _root_.Go.OpenSpec.ofChange s with cond := some uptoSmall }

/-- 'almanackerlaw13.TextTells', WHERE WHAT IT READS IS OF BULK AT MOST 1048576: true; the input reads as it did. -/
def textTellsUptoRow : OpenClaim := { program := "ytafenpgafmdenaagreatdoor", sum := "045b86d81523eaafa0cae53447c17253d3be828b28edcf1cd420abb66617fca9", func := "almanacker/almanackerlaw13.TextTells", spec := "textTells", inPlace := ["internal/bytealg.CountString", "internal/bytealg.IndexByteString", "internal/bytealg.IndexString", "internal/abi.NoEscape", "internal/bytealg.MakeNoZero", "math/bits.Add64"], unfollowed := true, recurses := true, named := ["internal/bytealg.MaxLen", "unicode/utf8.first", "unicode/utf8.acceptRanges", "almanacker/keviah.types", "almanacker/month.lengths", "almanacker/greg.lengths", "almanacker/text.powers"], apart := false, laid := [("almanacker/keviah.types", laid_almanacker_keviah_types), ("almanacker/month.lengths", laid_almanacker_month_lengths), ("unicode/utf8.acceptRanges", laid_unicode_utf8_acceptRanges), ("almanacker/greg.lengths", laid_almanacker_greg_lengths), ("almanacker/text.powers", laid_almanacker_text_powers), ("unicode/utf8.first", laid_unicode_utf8_first)], narrowed := true }
def TextTellsUptoSaid : Prop := textTellsUptoRow.holds Tryz.pinned (OpenSpec.upto textTellsSpec)

/-- 'almanackerlaw13.TextBack', WHERE WHAT IT READS IS OF BULK AT MOST 1048576: true; the input reads as it did. -/
def textBackUptoRow : OpenClaim := { program := "ytafenpgafmdenaagreatdoor", sum := "045b86d81523eaafa0cae53447c17253d3be828b28edcf1cd420abb66617fca9", func := "almanacker/almanackerlaw13.TextBack", spec := "textBack", inPlace := ["internal/bytealg.CountString", "internal/bytealg.IndexByteString", "internal/bytealg.IndexString", "internal/abi.NoEscape", "internal/bytealg.MakeNoZero", "math/bits.Add64"], unfollowed := true, recurses := true, named := ["internal/bytealg.MaxLen", "unicode/utf8.first", "unicode/utf8.acceptRanges", "almanacker/keviah.types", "almanacker/month.lengths", "almanacker/greg.lengths", "almanacker/text.powers"], apart := false, laid := [("almanacker/keviah.types", laid_almanacker_keviah_types), ("almanacker/month.lengths", laid_almanacker_month_lengths), ("unicode/utf8.acceptRanges", laid_unicode_utf8_acceptRanges), ("almanacker/greg.lengths", laid_almanacker_greg_lengths), ("almanacker/text.powers", laid_almanacker_text_powers), ("unicode/utf8.first", laid_unicode_utf8_first)], narrowed := true }
def TextBackUptoSaid : Prop := textBackUptoRow.holds Tryz.pinned (OpenSpec.upto textBackSpec)

/-- 'almanackerlaw14.NameTells', WHERE WHAT IT READS IS OF BULK AT MOST 1048576: true; the input reads as it did. -/
def nameTellsUptoRow : OpenClaim := { program := "ytafenpgafmdenaagreatdoor", sum := "045b86d81523eaafa0cae53447c17253d3be828b28edcf1cd420abb66617fca9", func := "almanacker/almanackerlaw14.NameTells", spec := "nameTells", inPlace := ["internal/bytealg.IndexByteString", "internal/bytealg.IndexString", "math/bits.Add64"], named := ["internal/bytealg.MaxLen", "almanacker/name.names", "almanacker/keviah.types", "almanacker/month.lengths", "internal/strconv.uint64pow10", "math/bits.deBruijn32tab", "math/bits.deBruijn64tab"], apart := false, laid := [("math/bits.deBruijn32tab", laid_math_bits_deBruijn32tab), ("math/bits.deBruijn64tab", laid_math_bits_deBruijn64tab), ("almanacker/keviah.types", laid_almanacker_keviah_types), ("almanacker/month.lengths", laid_almanacker_month_lengths), ("internal/strconv.uint64pow10", laid_internal_strconv_uint64pow10), ("almanacker/name.names", laid_almanacker_name_names)], narrowed := true }
def NameTellsUptoSaid : Prop := nameTellsUptoRow.holds Tryz.pinned (OpenSpec.upto nameTellsSpec)

/-- 'almanackerlaw16.AddTells', WHERE WHAT IT READS IS OF BULK AT MOST 1048576: true; the input reads as it did. -/
def addTellsUptoRow : OpenClaim := { program := "ytafenpgafmdenaagreatdoor", sum := "045b86d81523eaafa0cae53447c17253d3be828b28edcf1cd420abb66617fca9", func := "almanacker/almanackerlaw16.AddTells", spec := "addTells", inPlace := ["math/bits.Add64"], unfollowed := true, recurses := true, named := ["almanacker/keviah.types", "almanacker/month.lengths"], apart := false, laid := [("almanacker/keviah.types", laid_almanacker_keviah_types), ("almanacker/month.lengths", laid_almanacker_month_lengths)], narrowed := true }
def AddTellsUptoSaid : Prop := addTellsUptoRow.holds Tryz.pinned (OpenSpec.upto addTellsSpec)

/-- 'almanackerlaw17.UntilTells', WHERE WHAT IT READS IS OF BULK AT MOST 1048576: true; the input reads as it did. -/
def untilTellsUptoRow : OpenClaim := { program := "ytafenpgafmdenaagreatdoor", sum := "045b86d81523eaafa0cae53447c17253d3be828b28edcf1cd420abb66617fca9", func := "almanacker/almanackerlaw17.UntilTells", spec := "untilTells", inPlace := ["math/bits.Add64"], unfollowed := true, recurses := true, named := ["almanacker/keviah.types", "almanacker/month.lengths"], apart := false, laid := [("almanacker/keviah.types", laid_almanacker_keviah_types), ("almanacker/month.lengths", laid_almanacker_month_lengths)], narrowed := true }
def UntilTellsUptoSaid : Prop := untilTellsUptoRow.holds Tryz.pinned (OpenSpec.upto untilTellsSpec)

/-- 'almanackerlaw17.UntilBack', WHERE WHAT IT READS IS OF BULK AT MOST 1048576: true; the input reads as it did. -/
def untilBackUptoRow : OpenClaim := { program := "ytafenpgafmdenaagreatdoor", sum := "045b86d81523eaafa0cae53447c17253d3be828b28edcf1cd420abb66617fca9", func := "almanacker/almanackerlaw17.UntilBack", spec := "untilBack", inPlace := ["math/bits.Add64"], unfollowed := true, recurses := true, named := ["almanacker/keviah.types", "almanacker/month.lengths"], apart := false, laid := [("almanacker/keviah.types", laid_almanacker_keviah_types), ("almanacker/month.lengths", laid_almanacker_month_lengths)], narrowed := true }
def UntilBackUptoSaid : Prop := untilBackUptoRow.holds Tryz.pinned (OpenSpec.upto untilBackSpec)

/-- 'almanackerlaw17.UntilMost', WHERE WHAT IT READS IS OF BULK AT MOST 1048576: true; the input reads as it did. -/
def untilMostUptoRow : OpenClaim := { program := "ytafenpgafmdenaagreatdoor", sum := "045b86d81523eaafa0cae53447c17253d3be828b28edcf1cd420abb66617fca9", func := "almanacker/almanackerlaw17.UntilMost", spec := "untilMost", inPlace := ["math/bits.Add64"], unfollowed := true, recurses := true, named := ["almanacker/keviah.types", "almanacker/month.lengths"], apart := false, laid := [("almanacker/keviah.types", laid_almanacker_keviah_types), ("almanacker/month.lengths", laid_almanacker_month_lengths)], narrowed := true }
def UntilMostUptoSaid : Prop := untilMostUptoRow.holds Tryz.pinned (OpenSpec.upto untilMostSpec)

end Rows
end Go.Proofs.YtafenpgafmdenaaGreatDoor
