/-
  NARROWER THAN 'FOR EVERY INPUT', by the rows' own cells (each row's printed sentence says how): Worst: laid · Left: laid · Metered: laid · Often: laid.
  DERIVED. THE GIVEN ROWS OF THIS SEAT. 4 by the template 'for every input the law returns true; each argument reads behind the call as it read before'; 0 by the template 'total and deterministic' (their statements: YtpiefebngnlfoabGreatDoorTotals.lean).
  GIVEN WITH THE SEED: the statements are not yours to turn. If you find one false, say at which input.
  Laid BY PROGRAM, IN A SANDBOX (cutbox-rows.mjs): the forced cells as the released guide's own fill.sh prints them over the translation a3e7d496681c3845… (all of the seat's roots in one cut). By AI agents, Wed Nov 11 2026. No macro, syntax, notation, axiom, sorry.
-/
import Derived.Test.YtpiefebngnlfoabGreatDoorChecked
import GoSem.Claim
import GoSem.ClaimJoined
import GoSem.ClaimMapViews
import Derived.JoinedTies
import Derived.KernelRfl
namespace Go.Proofs.YtpiefebngnlfoabGreatDoor
/- THE CELL 'sum', in the pinned program and in every row, IS THE sha256 OF THE DUMP (.gsa) THAT YtpiefebngnlfoabGreatDoorProg.lean LOADS. Nothing in Lean hashes anything: it is a label: what it is worth is what the hold of that sum in a sandbox is worth. -/
noncomputable def Tryz.pinned : Pinned := { name := "ytpiefebngnlfoabgreatdoor", sum := "a3e7d496681c3845d97cc486421fa0b5c522c3adca72fde96559118eb91dc7a5", checked := Tryz.checked }
namespace Rows
def none {H : Type} : Left H := { results := [], args := [] }

/- WHAT THE LISTED PACKAGE-LEVEL VARIABLES READ AS WHEN THE CALL BEGINS. Each datum BY PROGRAM (the guide's laid-datum.mjs) off the statement by which the dump's own 'gosem.cut.vars' lays the variable. In a bare row this is a premise. The card (YtpiefebngnlfoabGreatDoorCards.lean) ties it to the program's text. -/
def laid_mosaic_block_errNone {H : Type} : DataW H := .iface "*errors.errorString" (.ptr (.agg [.lit (.string [98, 108, 111, 99, 107, 58, 32, 116, 104, 101, 114, 101, 32, 105, 115, 32, 110, 111, 32, 112, 105, 101, 99, 101, 32, 105, 110, 32, 105, 116])]))

/-- 'mosaickeep.Worst': WHATEVER THE INPUT: true; the input reads as it did. -/
def worstSpec : ChangeSpec := { name := "worst", fn := fun _ => fun
  | [d1, d2, d3, d4] => { results := [.lit (.bool true)], args := [d1, d2, d3, d4] }
  | _ => none }
def worstRow : OpenClaim := { program := "ytpiefebngnlfoabgreatdoor", sum := "a3e7d496681c3845d97cc486421fa0b5c522c3adca72fde96559118eb91dc7a5", func := "mosaic/mosaickeep.Worst", spec := "worst", inPlace := ["(*sync.WaitGroup).Add", "internal/race.ReleaseMerge", "internal/race.Disable", "internal/race.Enable", "internal/synctest.IsInBubble", "internal/synctest.Associate[sync.WaitGroup]", "sync.fatal", "sync/atomic.OrUint64", "sync/atomic.AddUint64", "internal/race.Read", "sync/atomic.LoadUint64", "sync/atomic.StoreUint64", "internal/synctest.Disassociate[sync.WaitGroup]", "sync.runtime_Semrelease", "(*sync.WaitGroup).Done", "(*sync.WaitGroup).Wait", "internal/race.Acquire", "internal/synctest.IsAssociated[sync.WaitGroup]", "sync/atomic.CompareAndSwapUint64", "internal/race.Write", "sync.runtime_SemacquireWaitGroup"], unfollowed := true, recurses := true, named := ["mosaic/block.errNone"], plainKeys := false, leaving := true, apart := false, laid := [("mosaic/block.errNone", laid_mosaic_block_errNone)] }
def WorstSaid : Prop := worstRow.holds Tryz.pinned (OpenSpec.ofChange worstSpec)

/-- ITS FALSE NEIGHBOUR: 'it returns false'. Refute it at one input. -/
def worstWrong : ChangeSpec := { name := "worst", fn := fun _ => fun
  | [d1, d2, d3, d4] => { results := [.lit (.bool false)], args := [d1, d2, d3, d4] }
  | _ => none }
def WorstWrongFalsely : Prop := worstRow.holds Tryz.pinned (OpenSpec.ofChange worstWrong)

/-- 'mosaickeep.Left': WHATEVER THE INPUT: true; the input reads as it did. -/
def leftSpec : ChangeSpec := { name := "left", fn := fun _ => fun
  | [d1, d2, d3, d4, d5, d6, d7] => { results := [.lit (.bool true)], args := [d1, d2, d3, d4, d5, d6, d7] }
  | _ => none }
def leftRow : OpenClaim := { program := "ytpiefebngnlfoabgreatdoor", sum := "a3e7d496681c3845d97cc486421fa0b5c522c3adca72fde96559118eb91dc7a5", func := "mosaic/mosaickeep.Left", spec := "left", inPlace := ["(*sync.WaitGroup).Add", "internal/race.ReleaseMerge", "internal/race.Disable", "internal/race.Enable", "internal/synctest.IsInBubble", "internal/synctest.Associate[sync.WaitGroup]", "sync.fatal", "sync/atomic.OrUint64", "sync/atomic.AddUint64", "internal/race.Read", "sync/atomic.LoadUint64", "sync/atomic.StoreUint64", "internal/synctest.Disassociate[sync.WaitGroup]", "sync.runtime_Semrelease", "(*sync.WaitGroup).Done", "(*sync.WaitGroup).Wait", "internal/race.Acquire", "internal/synctest.IsAssociated[sync.WaitGroup]", "sync/atomic.CompareAndSwapUint64", "internal/race.Write", "sync.runtime_SemacquireWaitGroup"], unfollowed := true, recurses := true, named := ["mosaic/block.errNone"], plainKeys := false, leaving := true, apart := false, laid := [("mosaic/block.errNone", laid_mosaic_block_errNone)] }
def LeftSaid : Prop := leftRow.holds Tryz.pinned (OpenSpec.ofChange leftSpec)

/-- ITS FALSE NEIGHBOUR: 'it returns false'. Refute it at one input. -/
def leftWrong : ChangeSpec := { name := "left", fn := fun _ => fun
  | [d1, d2, d3, d4, d5, d6, d7] => { results := [.lit (.bool false)], args := [d1, d2, d3, d4, d5, d6, d7] }
  | _ => none }
def LeftWrongFalsely : Prop := leftRow.holds Tryz.pinned (OpenSpec.ofChange leftWrong)

/-- 'mosaickeep.Metered': WHATEVER THE INPUT: true; the input reads as it did. -/
def meteredSpec : ChangeSpec := { name := "metered", fn := fun _ => fun
  | [d1, d2, d3, d4, d5, d6, d7] => { results := [.lit (.bool true)], args := [d1, d2, d3, d4, d5, d6, d7] }
  | _ => none }
def meteredRow : OpenClaim := { program := "ytpiefebngnlfoabgreatdoor", sum := "a3e7d496681c3845d97cc486421fa0b5c522c3adca72fde96559118eb91dc7a5", func := "mosaic/mosaickeep.Metered", spec := "metered", inPlace := ["(*sync.WaitGroup).Add", "internal/race.ReleaseMerge", "internal/race.Disable", "internal/race.Enable", "internal/synctest.IsInBubble", "internal/synctest.Associate[sync.WaitGroup]", "sync.fatal", "sync/atomic.OrUint64", "sync/atomic.AddUint64", "internal/race.Read", "sync/atomic.LoadUint64", "sync/atomic.StoreUint64", "internal/synctest.Disassociate[sync.WaitGroup]", "sync.runtime_Semrelease", "(*sync.WaitGroup).Done", "(*sync.WaitGroup).Wait", "internal/race.Acquire", "internal/synctest.IsAssociated[sync.WaitGroup]", "sync/atomic.CompareAndSwapUint64", "internal/race.Write", "sync.runtime_SemacquireWaitGroup"], unfollowed := true, recurses := true, named := ["mosaic/block.errNone"], plainKeys := false, leaving := true, apart := false, laid := [("mosaic/block.errNone", laid_mosaic_block_errNone)] }
def MeteredSaid : Prop := meteredRow.holds Tryz.pinned (OpenSpec.ofChange meteredSpec)

/-- ITS FALSE NEIGHBOUR: 'it returns false'. Refute it at one input. -/
def meteredWrong : ChangeSpec := { name := "metered", fn := fun _ => fun
  | [d1, d2, d3, d4, d5, d6, d7] => { results := [.lit (.bool false)], args := [d1, d2, d3, d4, d5, d6, d7] }
  | _ => none }
def MeteredWrongFalsely : Prop := meteredRow.holds Tryz.pinned (OpenSpec.ofChange meteredWrong)

/-- 'mosaickeep.Often': WHATEVER THE INPUT: true; the input reads as it did. -/
def oftenSpec : ChangeSpec := { name := "often", fn := fun _ => fun
  | [d1, d2, d3, d4, d5] => { results := [.lit (.bool true)], args := [d1, d2, d3, d4, d5] }
  | _ => none }
def oftenRow : OpenClaim := { program := "ytpiefebngnlfoabgreatdoor", sum := "a3e7d496681c3845d97cc486421fa0b5c522c3adca72fde96559118eb91dc7a5", func := "mosaic/mosaickeep.Often", spec := "often", inPlace := ["(*sync.WaitGroup).Add", "internal/race.ReleaseMerge", "internal/race.Disable", "internal/race.Enable", "internal/synctest.IsInBubble", "internal/synctest.Associate[sync.WaitGroup]", "sync.fatal", "sync/atomic.OrUint64", "sync/atomic.AddUint64", "internal/race.Read", "sync/atomic.LoadUint64", "sync/atomic.StoreUint64", "internal/synctest.Disassociate[sync.WaitGroup]", "sync.runtime_Semrelease", "(*sync.WaitGroup).Done", "(*sync.WaitGroup).Wait", "internal/race.Acquire", "internal/synctest.IsAssociated[sync.WaitGroup]", "sync/atomic.CompareAndSwapUint64", "internal/race.Write", "sync.runtime_SemacquireWaitGroup"], unfollowed := true, recurses := true, named := ["mosaic/block.errNone"], plainKeys := false, leaving := true, apart := false, laid := [("mosaic/block.errNone", laid_mosaic_block_errNone)] }
def OftenSaid : Prop := oftenRow.holds Tryz.pinned (OpenSpec.ofChange oftenSpec)

/-- ITS FALSE NEIGHBOUR: 'it returns false'. Refute it at one input. -/
def oftenWrong : ChangeSpec := { name := "often", fn := fun _ => fun
  | [d1, d2, d3, d4, d5] => { results := [.lit (.bool false)], args := [d1, d2, d3, d4, d5] }
  | _ => none }
def OftenWrongFalsely : Prop := oftenRow.holds Tryz.pinned (OpenSpec.ofChange oftenWrong)

/- THE SECOND FORM. 'bulk': how many values and letters a reading holds, each counted each time it is reached (what is shared counts as often as it is met; a slice's spare places count too). A statement '..UptoSaid' is the law's where the arguments, and the package variables that the reading takes, are together of bulk at most 1048576: NARROWER than '..Said'. Prove '..Said' where nothing that the law and all that it calls make is longer than what came in: it says more and counts as full. Else prove '..UptoSaid'. A law counts once. -/
mutual
def uptoBulk {H : Type} : DataW H → Nat
  | .lit (.string bytes) => bytes.length + 1
  | .lit _ => 1
  | .nil => 1
  | .ptr d => uptoBulk d + 1
  | .slice elems spare => uptoBulkAll elems + uptoBulkAll spare + 1
  | .agg parts => uptoBulkAll parts + 1
  | .iface _ d => uptoBulk d + 1
  | .map entries => uptoBulkEntries entries + 1
  | .held _ => 1
def uptoBulkAll {H : Type} : List (DataW H) → Nat
  | [] => 0
  | d :: r => uptoBulk d + uptoBulkAll r
def uptoBulkEntries {H : Type} : List (Lit × DataW H) → Nat
  | [] => 0
  | x :: r => uptoBulkEntry x + uptoBulkEntries r
def uptoBulkEntry {H : Type} : Lit × DataW H → Nat
  | (.string bytes, d) => bytes.length + uptoBulk d + 1
  | (_, d) => uptoBulk d + 1
 end
def uptoSmall : (H : Type) → List (DataW H) → Bool := fun _ ds => decide (uptoBulkAll ds ≤ 1048576)
def OpenSpec.upto (s : _root_.Go.ChangeSpec) : _root_.Go.OpenSpec := { _root_.Go.OpenSpec.ofChange s with cond := some uptoSmall }

/-- 'mosaickeep.Worst', WHERE WHAT IT READS IS OF BULK AT MOST 1048576: true; the input reads as it did. -/
def worstUptoRow : OpenClaim := { program := "ytpiefebngnlfoabgreatdoor", sum := "a3e7d496681c3845d97cc486421fa0b5c522c3adca72fde96559118eb91dc7a5", func := "mosaic/mosaickeep.Worst", spec := "worst", inPlace := ["(*sync.WaitGroup).Add", "internal/race.ReleaseMerge", "internal/race.Disable", "internal/race.Enable", "internal/synctest.IsInBubble", "internal/synctest.Associate[sync.WaitGroup]", "sync.fatal", "sync/atomic.OrUint64", "sync/atomic.AddUint64", "internal/race.Read", "sync/atomic.LoadUint64", "sync/atomic.StoreUint64", "internal/synctest.Disassociate[sync.WaitGroup]", "sync.runtime_Semrelease", "(*sync.WaitGroup).Done", "(*sync.WaitGroup).Wait", "internal/race.Acquire", "internal/synctest.IsAssociated[sync.WaitGroup]", "sync/atomic.CompareAndSwapUint64", "internal/race.Write", "sync.runtime_SemacquireWaitGroup"], unfollowed := true, recurses := true, named := ["mosaic/block.errNone"], plainKeys := false, leaving := true, apart := false, laid := [("mosaic/block.errNone", laid_mosaic_block_errNone)], narrowed := true }
def WorstUptoSaid : Prop := worstUptoRow.holds Tryz.pinned (OpenSpec.upto worstSpec)

/-- 'mosaickeep.Left', WHERE WHAT IT READS IS OF BULK AT MOST 1048576: true; the input reads as it did. -/
def leftUptoRow : OpenClaim := { program := "ytpiefebngnlfoabgreatdoor", sum := "a3e7d496681c3845d97cc486421fa0b5c522c3adca72fde96559118eb91dc7a5", func := "mosaic/mosaickeep.Left", spec := "left", inPlace := ["(*sync.WaitGroup).Add", "internal/race.ReleaseMerge", "internal/race.Disable", "internal/race.Enable", "internal/synctest.IsInBubble", "internal/synctest.Associate[sync.WaitGroup]", "sync.fatal", "sync/atomic.OrUint64", "sync/atomic.AddUint64", "internal/race.Read", "sync/atomic.LoadUint64", "sync/atomic.StoreUint64", "internal/synctest.Disassociate[sync.WaitGroup]", "sync.runtime_Semrelease", "(*sync.WaitGroup).Done", "(*sync.WaitGroup).Wait", "internal/race.Acquire", "internal/synctest.IsAssociated[sync.WaitGroup]", "sync/atomic.CompareAndSwapUint64", "internal/race.Write", "sync.runtime_SemacquireWaitGroup"], unfollowed := true, recurses := true, named := ["mosaic/block.errNone"], plainKeys := false, leaving := true, apart := false, laid := [("mosaic/block.errNone", laid_mosaic_block_errNone)], narrowed := true }
def LeftUptoSaid : Prop := leftUptoRow.holds Tryz.pinned (OpenSpec.upto leftSpec)

/-- 'mosaickeep.Metered', WHERE WHAT IT READS IS OF BULK AT MOST 1048576: true; the input reads as it did. -/
def meteredUptoRow : OpenClaim := { program := "ytpiefebngnlfoabgreatdoor", sum := "a3e7d496681c3845d97cc486421fa0b5c522c3adca72fde96559118eb91dc7a5", func := "mosaic/mosaickeep.Metered", spec := "metered", inPlace := ["(*sync.WaitGroup).Add", "internal/race.ReleaseMerge", "internal/race.Disable", "internal/race.Enable", "internal/synctest.IsInBubble", "internal/synctest.Associate[sync.WaitGroup]", "sync.fatal", "sync/atomic.OrUint64", "sync/atomic.AddUint64", "internal/race.Read", "sync/atomic.LoadUint64", "sync/atomic.StoreUint64", "internal/synctest.Disassociate[sync.WaitGroup]", "sync.runtime_Semrelease", "(*sync.WaitGroup).Done", "(*sync.WaitGroup).Wait", "internal/race.Acquire", "internal/synctest.IsAssociated[sync.WaitGroup]", "sync/atomic.CompareAndSwapUint64", "internal/race.Write", "sync.runtime_SemacquireWaitGroup"], unfollowed := true, recurses := true, named := ["mosaic/block.errNone"], plainKeys := false, leaving := true, apart := false, laid := [("mosaic/block.errNone", laid_mosaic_block_errNone)], narrowed := true }
def MeteredUptoSaid : Prop := meteredUptoRow.holds Tryz.pinned (OpenSpec.upto meteredSpec)

/-- 'mosaickeep.Often', WHERE WHAT IT READS IS OF BULK AT MOST 1048576: true; the input reads as it did. -/
def oftenUptoRow : OpenClaim := { program := "ytpiefebngnlfoabgreatdoor", sum := "a3e7d496681c3845d97cc486421fa0b5c522c3adca72fde96559118eb91dc7a5", func := "mosaic/mosaickeep.Often", spec := "often", inPlace := ["(*sync.WaitGroup).Add", "internal/race.ReleaseMerge", "internal/race.Disable", "internal/race.Enable", "internal/synctest.IsInBubble", "internal/synctest.Associate[sync.WaitGroup]", "sync.fatal", "sync/atomic.OrUint64", "sync/atomic.AddUint64", "internal/race.Read", "sync/atomic.LoadUint64", "sync/atomic.StoreUint64", "internal/synctest.Disassociate[sync.WaitGroup]", "sync.runtime_Semrelease", "(*sync.WaitGroup).Done", "(*sync.WaitGroup).Wait", "internal/race.Acquire", "internal/synctest.IsAssociated[sync.WaitGroup]", "sync/atomic.CompareAndSwapUint64", "internal/race.Write", "sync.runtime_SemacquireWaitGroup"], unfollowed := true, recurses := true, named := ["mosaic/block.errNone"], plainKeys := false, leaving := true, apart := false, laid := [("mosaic/block.errNone", laid_mosaic_block_errNone)], narrowed := true }
def OftenUptoSaid : Prop := oftenUptoRow.holds Tryz.pinned (OpenSpec.upto oftenSpec)

end Rows
end Go.Proofs.YtpiefebngnlfoabGreatDoor
