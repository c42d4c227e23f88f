/-
  NARROWER THAN 'FOR EVERY INPUT', by the rows' own cells (each row's printed sentence says how): WholeFeasts: laid · WholeTorah: laid.
  DERIVED. THE GIVEN ROWS OF THIS SEAT. 2 by the template 'for every input the law returns true; each argument reads behind the call as it read before'; 0 by the template 'total and deterministic' (their statements: YtgojeobnoebnlaaGreatDoorTotals.lean).
  GIVEN WITH THE SEED: the statements are not yours to turn. If you find one false, say at which input.
  Laid BY PROGRAM, IN A SANDBOX (cutbox-rows.mjs): the forced cells as the released guide's own fill.sh prints them over the translation 99e0021ac5706405… (all of the seat's roots in one cut). By AI agents, Wed Nov 11 2026. No macro, syntax, notation, axiom, sorry.
-/
import Derived.Test.YtgojeobnoebnlaaGreatDoorChecked
import GoSem.Claim
import GoSem.ClaimJoined
import GoSem.ClaimMapViews
import Derived.JoinedTies
import Derived.KernelRfl
namespace Go.Proofs.YtgojeobnoebnlaaGreatDoor
/- THE CELL 'sum', in the pinned program and in every row, IS THE sha256 OF THE DUMP (.gsa) THAT YtgojeobnoebnlaaGreatDoorProg.lean LOADS. Nothing in Lean hashes anything: it is a label: what it is worth is what the hold of that sum in a sandbox is worth. -/
noncomputable def Tryz.pinned : Pinned := { name := "ytgojeobnoebnlaagreatdoor", sum := "99e0021ac5706405f2e8cfea374402b9ed457565e15860c9a89ddce06d77e68c", checked := Tryz.checked }
namespace Rows
def none {H : Type} : Left H := { results := [], args := [] }

/- WHAT THE LISTED PACKAGE-LEVEL VARIABLES READ AS WHEN THE CALL BEGINS. Each datum BY PROGRAM (the guide's laid-datum.mjs) off the statement by which the dump's own 'gosem.cut.vars' lays the variable. In a bare row this is a premise. The card (YtgojeobnoebnlaaGreatDoorCards.lean) ties it to the program's text. -/
def laid_almanacker_keviah_types {H : Type} : DataW H := .agg [.agg [.lit (.int .i64 1), .lit (.int .i64 0), .lit (.bool false)], .agg [.lit (.int .i64 1), .lit (.int .i64 2), .lit (.bool false)], .agg [.lit (.int .i64 2), .lit (.int .i64 1), .lit (.bool false)], .agg [.lit (.int .i64 4), .lit (.int .i64 1), .lit (.bool false)], .agg [.lit (.int .i64 4), .lit (.int .i64 2), .lit (.bool false)], .agg [.lit (.int .i64 6), .lit (.int .i64 0), .lit (.bool false)], .agg [.lit (.int .i64 6), .lit (.int .i64 2), .lit (.bool false)], .agg [.lit (.int .i64 1), .lit (.int .i64 0), .lit (.bool true)], .agg [.lit (.int .i64 1), .lit (.int .i64 2), .lit (.bool true)], .agg [.lit (.int .i64 2), .lit (.int .i64 1), .lit (.bool true)], .agg [.lit (.int .i64 4), .lit (.int .i64 0), .lit (.bool true)], .agg [.lit (.int .i64 4), .lit (.int .i64 2), .lit (.bool true)], .agg [.lit (.int .i64 6), .lit (.int .i64 0), .lit (.bool true)], .agg [.lit (.int .i64 6), .lit (.int .i64 2), .lit (.bool true)]]
def laid_almanacker_month_lengths {H : Type} : DataW H := .agg [.lit (.int .i64 30), .lit (.int .i64 29), .lit (.int .i64 30), .lit (.int .i64 29), .lit (.int .i64 30), .lit (.int .i64 30), .lit (.int .i64 29), .lit (.int .i64 30), .lit (.int .i64 29), .lit (.int .i64 30), .lit (.int .i64 29), .lit (.int .i64 30), .lit (.int .i64 29)]
def laid_almanacker_greg_lengths {H : Type} : DataW H := .agg [.lit (.int .i64 31), .lit (.int .i64 28), .lit (.int .i64 31), .lit (.int .i64 30), .lit (.int .i64 31), .lit (.int .i64 30), .lit (.int .i64 31), .lit (.int .i64 31), .lit (.int .i64 30), .lit (.int .i64 31), .lit (.int .i64 30), .lit (.int .i64 31)]
def laid_almanacker_feast_rows {H : Type} : DataW H := .agg [.agg [.lit (.int .i64 1), .agg [.lit (.int .i64 1), .lit (.bool false)], .agg [.lit (.int .i64 1), .lit (.int .i64 2)], .agg [.lit (.int .i64 1), .lit (.int .i64 2)]], .agg [.lit (.int .i64 3), .agg [.lit (.int .i64 1), .lit (.bool false)], .agg [.lit (.int .i64 10), .lit (.int .i64 1)], .agg [.lit (.int .i64 10), .lit (.int .i64 1)]], .agg [.lit (.int .i64 4), .agg [.lit (.int .i64 1), .lit (.bool false)], .agg [.lit (.int .i64 15), .lit (.int .i64 2)], .agg [.lit (.int .i64 15), .lit (.int .i64 1)]], .agg [.lit (.int .i64 5), .agg [.lit (.int .i64 1), .lit (.bool false)], .agg [.lit (.int .i64 17), .lit (.int .i64 4)], .agg [.lit (.int .i64 16), .lit (.int .i64 5)]], .agg [.lit (.int .i64 6), .agg [.lit (.int .i64 1), .lit (.bool false)], .agg [.lit (.int .i64 21), .lit (.int .i64 1)], .agg [.lit (.int .i64 21), .lit (.int .i64 1)]], .agg [.lit (.int .i64 7), .agg [.lit (.int .i64 1), .lit (.bool false)], .agg [.lit (.int .i64 22), .lit (.int .i64 1)], .agg [.lit (.int .i64 22), .lit (.int .i64 1)]], .agg [.lit (.int .i64 8), .agg [.lit (.int .i64 1), .lit (.bool false)], .agg [.lit (.int .i64 23), .lit (.int .i64 1)], .agg [.lit (.int .i64 22), .lit (.int .i64 1)]], .agg [.lit (.int .i64 9), .agg [.lit (.int .i64 3), .lit (.bool false)], .agg [.lit (.int .i64 25), .lit (.int .i64 8)], .agg [.lit (.int .i64 25), .lit (.int .i64 8)]], .agg [.lit (.int .i64 11), .agg [.lit (.int .i64 5), .lit (.bool false)], .agg [.lit (.int .i64 15), .lit (.int .i64 1)], .agg [.lit (.int .i64 15), .lit (.int .i64 1)]], .agg [.lit (.int .i64 12), .agg [.lit (.int .i64 5), .lit (.bool true)], .agg [.lit (.int .i64 14), .lit (.int .i64 1)], .agg [.lit (.int .i64 14), .lit (.int .i64 1)]], .agg [.lit (.int .i64 14), .agg [.lit (.int .i64 6), .lit (.bool false)], .agg [.lit (.int .i64 14), .lit (.int .i64 1)], .agg [.lit (.int .i64 14), .lit (.int .i64 1)]], .agg [.lit (.int .i64 15), .agg [.lit (.int .i64 6), .lit (.bool false)], .agg [.lit (.int .i64 15), .lit (.int .i64 1)], .agg [.lit (.int .i64 15), .lit (.int .i64 1)]], .agg [.lit (.int .i64 17), .agg [.lit (.int .i64 7), .lit (.bool false)], .agg [.lit (.int .i64 15), .lit (.int .i64 2)], .agg [.lit (.int .i64 15), .lit (.int .i64 1)]], .agg [.lit (.int .i64 18), .agg [.lit (.int .i64 7), .lit (.bool false)], .agg [.lit (.int .i64 17), .lit (.int .i64 4)], .agg [.lit (.int .i64 16), .lit (.int .i64 5)]], .agg [.lit (.int .i64 17), .agg [.lit (.int .i64 7), .lit (.bool false)], .agg [.lit (.int .i64 21), .lit (.int .i64 2)], .agg [.lit (.int .i64 21), .lit (.int .i64 1)]], .agg [.lit (.int .i64 22), .agg [.lit (.int .i64 8), .lit (.bool false)], .agg [.lit (.int .i64 14), .lit (.int .i64 1)], .agg [.lit (.int .i64 14), .lit (.int .i64 1)]], .agg [.lit (.int .i64 23), .agg [.lit (.int .i64 8), .lit (.bool false)], .agg [.lit (.int .i64 18), .lit (.int .i64 1)], .agg [.lit (.int .i64 18), .lit (.int .i64 1)]], .agg [.lit (.int .i64 25), .agg [.lit (.int .i64 9), .lit (.bool false)], .agg [.lit (.int .i64 6), .lit (.int .i64 2)], .agg [.lit (.int .i64 6), .lit (.int .i64 1)]], .agg [.lit (.int .i64 28), .agg [.lit (.int .i64 11), .lit (.bool false)], .agg [.lit (.int .i64 15), .lit (.int .i64 1)], .agg [.lit (.int .i64 15), .lit (.int .i64 1)]]]
def laid_almanacker_fast_rows {H : Type} : DataW H := .agg [.agg [.lit (.int .i64 2), .lit (.int .i64 1), .lit (.int .i64 3)], .agg [.lit (.int .i64 10), .lit (.int .i64 4), .lit (.int .i64 10)], .agg [.lit (.int .i64 13), .lit (.int .i64 6), .lit (.int .i64 13)], .agg [.lit (.int .i64 16), .lit (.int .i64 7), .lit (.int .i64 14)], .agg [.lit (.int .i64 19), .lit (.int .i64 7), .lit (.int .i64 27)], .agg [.lit (.int .i64 21), .lit (.int .i64 8), .lit (.int .i64 5)], .agg [.lit (.int .i64 24), .lit (.int .i64 8), .lit (.int .i64 28)], .agg [.lit (.int .i64 26), .lit (.int .i64 10), .lit (.int .i64 17)], .agg [.lit (.int .i64 27), .lit (.int .i64 11), .lit (.int .i64 9)]]
def laid_almanacker_text_powers {H : Type} : DataW H := .agg [.lit (.int .i64 1), .lit (.int .i64 10), .lit (.int .i64 100), .lit (.int .i64 1000)]
def laid_almanacker_torah_pairs {H : Type} : DataW H := .agg [.lit (.int .i64 22), .lit (.int .i64 27), .lit (.int .i64 29), .lit (.int .i64 32), .lit (.int .i64 39), .lit (.int .i64 42), .lit (.int .i64 51)]

/-- 'almanackertop.WholeFeasts': WHATEVER THE INPUT: true; the input reads as it did. -/
def wholeFeastsSpec : ChangeSpec := { name := "wholeFeasts", fn := fun _ => fun
  | [d1, d2] => { results := [.lit (.bool true)], args := [d1, d2] }
  | _ => none }
def wholeFeastsRow : OpenClaim := { program := "ytgojeobnoebnlaagreatdoor", sum := "99e0021ac5706405f2e8cfea374402b9ed457565e15860c9a89ddce06d77e68c", func := "almanacker/almanackertop.WholeFeasts", spec := "wholeFeasts", inPlace := ["math/bits.Add64", "(*sync.WaitGroup).Add", "internal/race.ReleaseMerge", "internal/race.Disable", "internal/race.Enable", "internal/synctest.IsInBubble", "internal/synctest.Associate[sync.WaitGroup]", "sync.fatal", "sync/atomic.OrUint64", "sync/atomic.AddUint64", "internal/race.Read", "sync/atomic.LoadUint64", "sync/atomic.StoreUint64", "internal/synctest.Disassociate[sync.WaitGroup]", "sync.runtime_Semrelease", "(*sync.WaitGroup).Done", "(*sync.WaitGroup).Wait", "internal/race.Acquire", "internal/synctest.IsAssociated[sync.WaitGroup]", "sync/atomic.CompareAndSwapUint64", "internal/race.Write", "sync.runtime_SemacquireWaitGroup"], unfollowed := true, recurses := true, named := ["almanacker/feast.rows", "almanacker/keviah.types", "almanacker/month.lengths", "almanacker/fast.rows", "almanacker/text.powers", "almanacker/greg.lengths"], leaving := true, apart := false, laid := [("almanacker/keviah.types", laid_almanacker_keviah_types), ("almanacker/month.lengths", laid_almanacker_month_lengths), ("almanacker/greg.lengths", laid_almanacker_greg_lengths), ("almanacker/feast.rows", laid_almanacker_feast_rows), ("almanacker/fast.rows", laid_almanacker_fast_rows), ("almanacker/text.powers", laid_almanacker_text_powers)] }
def WholeFeastsSaid : Prop := wholeFeastsRow.holds Tryz.pinned (OpenSpec.ofChange wholeFeastsSpec)

/-- ITS FALSE NEIGHBOUR: 'it returns false'. Refute it at one input. -/
def wholeFeastsWrong : ChangeSpec := { name := "wholeFeasts", fn := fun _ => fun
  | [d1, d2] => { results := [.lit (.bool false)], args := [d1, d2] }
  | _ => none }
def WholeFeastsWrongFalsely : Prop := wholeFeastsRow.holds Tryz.pinned (OpenSpec.ofChange wholeFeastsWrong)

/-- 'almanackertop.WholeTorah': WHATEVER THE INPUT: true; the input reads as it did. -/
def wholeTorahSpec : ChangeSpec := { name := "wholeTorah", fn := fun _ => fun
  | [d1, d2] => { results := [.lit (.bool true)], args := [d1, d2] }
  | _ => none }
def wholeTorahRow : OpenClaim := { program := "ytgojeobnoebnlaagreatdoor", sum := "99e0021ac5706405f2e8cfea374402b9ed457565e15860c9a89ddce06d77e68c", func := "almanacker/almanackertop.WholeTorah", spec := "wholeTorah", inPlace := ["math/bits.Add64", "(*sync.WaitGroup).Add", "internal/race.ReleaseMerge", "internal/race.Disable", "internal/race.Enable", "internal/synctest.IsInBubble", "internal/synctest.Associate[sync.WaitGroup]", "sync.fatal", "sync/atomic.OrUint64", "sync/atomic.AddUint64", "internal/race.Read", "sync/atomic.LoadUint64", "sync/atomic.StoreUint64", "internal/synctest.Disassociate[sync.WaitGroup]", "sync.runtime_Semrelease", "(*sync.WaitGroup).Done", "(*sync.WaitGroup).Wait", "internal/race.Acquire", "internal/synctest.IsAssociated[sync.WaitGroup]", "sync/atomic.CompareAndSwapUint64", "internal/race.Write", "sync.runtime_SemacquireWaitGroup"], unfollowed := true, recurses := true, named := ["almanacker/feast.rows", "almanacker/keviah.types", "almanacker/month.lengths", "almanacker/fast.rows", "almanacker/greg.lengths", "almanacker/torah.pairs", "almanacker/text.powers"], leaving := true, apart := false, laid := [("almanacker/keviah.types", laid_almanacker_keviah_types), ("almanacker/month.lengths", laid_almanacker_month_lengths), ("almanacker/greg.lengths", laid_almanacker_greg_lengths), ("almanacker/feast.rows", laid_almanacker_feast_rows), ("almanacker/fast.rows", laid_almanacker_fast_rows), ("almanacker/torah.pairs", laid_almanacker_torah_pairs), ("almanacker/text.powers", laid_almanacker_text_powers)] }
def WholeTorahSaid : Prop := wholeTorahRow.holds Tryz.pinned (OpenSpec.ofChange wholeTorahSpec)

/-- ITS FALSE NEIGHBOUR: 'it returns false'. Refute it at one input. -/
def wholeTorahWrong : ChangeSpec := { name := "wholeTorah", fn := fun _ => fun
  | [d1, d2] => { results := [.lit (.bool false)], args := [d1, d2] }
  | _ => none }
def WholeTorahWrongFalsely : Prop := wholeTorahRow.holds Tryz.pinned (OpenSpec.ofChange wholeTorahWrong)

/- THE SECOND FORM. 'bulk': how many values and letters a reading holds, each counted each time it is reached (what is shared counts as often as it is met; a slice's spare places count too). A statement '..UptoSaid' is the law's where the arguments, and the package variables that the reading takes, are together of bulk at most 1048576: NARROWER than '..Said'. Prove '..Said' where nothing that the law and all that it calls make is longer than what came in: it says more and counts as full. Else prove '..UptoSaid'. A law counts once. -/
mutual
def uptoBulk {H : Type} : DataW H → Nat
  | .lit (.string bytes) => bytes.length + 1
  | .lit _ => 1
  | .nil => 1
  | .ptr d => uptoBulk d + 1
  | .slice elems spare => uptoBulkAll elems + uptoBulkAll spare + 1
  | .agg parts => uptoBulkAll parts + 1
  | .iface _ d => uptoBulk d + 1
  | .map entries => uptoBulkEntries entries + 1
  | .held _ => 1
def uptoBulkAll {H : Type} : List (DataW H) → Nat
  | [] => 0
  | d :: r => uptoBulk d + uptoBulkAll r
def uptoBulkEntries {H : Type} : List (Lit × DataW H) → Nat
  | [] => 0
  | x :: r => uptoBulkEntry x + uptoBulkEntries r
def uptoBulkEntry {H : Type} : Lit × DataW H → Nat
  | (.string bytes, d) => bytes.length + uptoBulk d + 1
  | (_, d) => uptoBulk d + 1
 end
def uptoSmall : (H : Type) → List (DataW H) → Bool := fun _ ds => decide (uptoBulkAll ds ≤ 1048576)
def OpenSpec.upto (s : _root_.Go.ChangeSpec) : _root_.Go.OpenSpec := { _root_.Go.OpenSpec.ofChange s with cond := some uptoSmall }

/-- 'almanackertop.WholeFeasts', WHERE WHAT IT READS IS OF BULK AT MOST 1048576: true; the input reads as it did. -/
def wholeFeastsUptoRow : OpenClaim := { program := "ytgojeobnoebnlaagreatdoor", sum := "99e0021ac5706405f2e8cfea374402b9ed457565e15860c9a89ddce06d77e68c", func := "almanacker/almanackertop.WholeFeasts", spec := "wholeFeasts", inPlace := ["math/bits.Add64", "(*sync.WaitGroup).Add", "internal/race.ReleaseMerge", "internal/race.Disable", "internal/race.Enable", "internal/synctest.IsInBubble", "internal/synctest.Associate[sync.WaitGroup]", "sync.fatal", "sync/atomic.OrUint64", "sync/atomic.AddUint64", "internal/race.Read", "sync/atomic.LoadUint64", "sync/atomic.StoreUint64", "internal/synctest.Disassociate[sync.WaitGroup]", "sync.runtime_Semrelease", "(*sync.WaitGroup).Done", "(*sync.WaitGroup).Wait", "internal/race.Acquire", "internal/synctest.IsAssociated[sync.WaitGroup]", "sync/atomic.CompareAndSwapUint64", "internal/race.Write", "sync.runtime_SemacquireWaitGroup"], unfollowed := true, recurses := true, named := ["almanacker/feast.rows", "almanacker/keviah.types", "almanacker/month.lengths", "almanacker/fast.rows", "almanacker/text.powers", "almanacker/greg.lengths"], leaving := true, apart := false, laid := [("almanacker/keviah.types", laid_almanacker_keviah_types), ("almanacker/month.lengths", laid_almanacker_month_lengths), ("almanacker/greg.lengths", laid_almanacker_greg_lengths), ("almanacker/feast.rows", laid_almanacker_feast_rows), ("almanacker/fast.rows", laid_almanacker_fast_rows), ("almanacker/text.powers", laid_almanacker_text_powers)], narrowed := true }
def WholeFeastsUptoSaid : Prop := wholeFeastsUptoRow.holds Tryz.pinned (OpenSpec.upto wholeFeastsSpec)

/-- 'almanackertop.WholeTorah', WHERE WHAT IT READS IS OF BULK AT MOST 1048576: true; the input reads as it did. -/
def wholeTorahUptoRow : OpenClaim := { program := "ytgojeobnoebnlaagreatdoor", sum := "99e0021ac5706405f2e8cfea374402b9ed457565e15860c9a89ddce06d77e68c", func := "almanacker/almanackertop.WholeTorah", spec := "wholeTorah", inPlace := ["math/bits.Add64", "(*sync.WaitGroup).Add", "internal/race.ReleaseMerge", "internal/race.Disable", "internal/race.Enable", "internal/synctest.IsInBubble", "internal/synctest.Associate[sync.WaitGroup]", "sync.fatal", "sync/atomic.OrUint64", "sync/atomic.AddUint64", "internal/race.Read", "sync/atomic.LoadUint64", "sync/atomic.StoreUint64", "internal/synctest.Disassociate[sync.WaitGroup]", "sync.runtime_Semrelease", "(*sync.WaitGroup).Done", "(*sync.WaitGroup).Wait", "internal/race.Acquire", "internal/synctest.IsAssociated[sync.WaitGroup]", "sync/atomic.CompareAndSwapUint64", "internal/race.Write", "sync.runtime_SemacquireWaitGroup"], unfollowed := true, recurses := true, named := ["almanacker/feast.rows", "almanacker/keviah.types", "almanacker/month.lengths", "almanacker/fast.rows", "almanacker/greg.lengths", "almanacker/torah.pairs", "almanacker/text.powers"], leaving := true, apart := false, laid := [("almanacker/keviah.types", laid_almanacker_keviah_types), ("almanacker/month.lengths", laid_almanacker_month_lengths), ("almanacker/greg.lengths", laid_almanacker_greg_lengths), ("almanacker/feast.rows", laid_almanacker_feast_rows), ("almanacker/fast.rows", laid_almanacker_fast_rows), ("almanacker/torah.pairs", laid_almanacker_torah_pairs), ("almanacker/text.powers", laid_almanacker_text_powers)], narrowed := true }
def WholeTorahUptoSaid : Prop := wholeTorahUptoRow.holds Tryz.pinned (OpenSpec.upto wholeTorahSpec)

end Rows
end Go.Proofs.YtgojeobnoebnlaaGreatDoor
