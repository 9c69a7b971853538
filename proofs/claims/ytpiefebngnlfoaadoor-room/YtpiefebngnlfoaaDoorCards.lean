/-
  DERIVED. GIVEN WITH THE SEED: THE CARDS: each row of YtpiefebngnlfoaaDoorRows.lean that lists a variable, with what it lists TIED to the program's text (the seventh form; the later family's looks); each row that meets fmt, with fmt's text TOLD by the authors' own Lean function (tested against real Go, not proved from fmt's source: count such statements apart). THE CARD IS WHAT COUNTS. Prove the row's statement (the work); the ties are given (YtpiefebngnlfoaaDoorTie.lean); close each card by the builder's one call (the guide's Derived/Test/ToyasCard.lean, 'card_holds'). Laid BY PROGRAM, IN A SANDBOX (cutbox-door.mjs). By AI agents, Wed Nov 11 2026. No macro, syntax, notation, axiom, sorry.
-/
import Derived.Test.YtpiefebngnlfoaaDoorRows
import GoSem.ClaimSeven
namespace Go.Proofs.YtpiefebngnlfoaaDoor
namespace Rows

/-- THE TIED CARD OF 'mosaiclaw.Mounts'. -/
def mountsCard : Claim7 := { stood := { row := mountsRow, standIns := [], harness := (true, "5b53d3d5f53bfba2e0f5cca37ec2a016e0350fb04f9ed5827caaee7a3065343c"), looks := false }, kinds := [], alts := [], goes := true, laidByText := true, laidKinds := [.sentinel], laidTests := true, laidLooks := .later }
def MountsCardSaid : Prop := Claim7.holds Tryd.pinned (.plain (OpenSpec.ofChange mountsSpec)) mountsCard

/-- THE TIED CARD OF 'mosaickeep.Room'. -/
def roomCard : Claim7 := { stood := { row := roomRow, standIns := [], harness := (true, "5b53d3d5f53bfba2e0f5cca37ec2a016e0350fb04f9ed5827caaee7a3065343c"), looks := false }, kinds := [], alts := [], goes := true, laidByText := true, laidKinds := [.sentinel], laidTests := true, laidLooks := .later }
def RoomCardSaid : Prop := Claim7.holds Tryd.pinned (.plain (OpenSpec.ofChange roomSpec)) roomCard

/-- THE SECOND FORM's CARD OF 'mosaiclaw.Mounts'. -/
def mountsUptoCard : Claim7 := { stood := { row := mountsUptoRow, standIns := [], harness := (true, "5b53d3d5f53bfba2e0f5cca37ec2a016e0350fb04f9ed5827caaee7a3065343c"), looks := false }, kinds := [], alts := [], goes := true, laidByText := true, laidKinds := [.sentinel], laidTests := true, laidLooks := .later }
def MountsUptoCardSaid : Prop := Claim7.holds Tryd.pinned (.plain (OpenSpec.upto mountsSpec)) mountsUptoCard

/-- THE SECOND FORM's CARD OF 'mosaickeep.Room'. -/
def roomUptoCard : Claim7 := { stood := { row := roomUptoRow, standIns := [], harness := (true, "5b53d3d5f53bfba2e0f5cca37ec2a016e0350fb04f9ed5827caaee7a3065343c"), looks := false }, kinds := [], alts := [], goes := true, laidByText := true, laidKinds := [.sentinel], laidTests := true, laidLooks := .later }
def RoomUptoCardSaid : Prop := Claim7.holds Tryd.pinned (.plain (OpenSpec.upto roomSpec)) roomUptoCard
end Rows
end Go.Proofs.YtpiefebngnlfoaaDoor
