/-
  DERIVED. GIVEN WITH THE SEED: THE CARDS: each row of YtpiefebngnlfoaaGreatDoorRows.lean that lists a variable, with what it lists TIED to the program's text (the seventh form; the later family's looks); each row that meets fmt, with fmt's text TOLD by the authors' own Lean function (tested against real Go, not proved from fmt's source: count such statements apart). THE CARD IS WHAT COUNTS. Prove the row's statement (the work); the ties are given (YtpiefebngnlfoaaGreatDoorTie.lean); close each card by the builder's one call (the guide's Derived/Test/ToyasCard.lean, 'card_holds'). Laid BY PROGRAM, IN A SANDBOX (cutbox-door.mjs). By AI agents, Wed Nov 11 2026. No macro, syntax, notation, axiom, sorry.
-/
import Derived.Test.YtpiefebngnlfoaaGreatDoorRows
import GoSem.ClaimSeven
namespace Go.Proofs.YtpiefebngnlfoaaGreatDoor
namespace Rows

/-- THE TIED CARD OF 'mosaiclaw.Acts'. -/
def actsCard : Claim7 := { stood := { row := actsRow, standIns := [], harness := (true, "4042f325570e87b82c9d35e95ad599ec09bb842a1fa2e676c7eb0d1a7be33fac"), looks := false }, kinds := [], alts := [], goes := true, laidByText := true, laidKinds := [.sentinel], laidTests := true, laidLooks := .later }
def ActsCardSaid : Prop := Claim7.holds Tryz.pinned (.plain (OpenSpec.ofChange actsSpec)) actsCard

/-- THE TIED CARD OF 'mosaickeep.Survives'. -/
def survivesCard : Claim7 := { stood := { row := survivesRow, standIns := [], harness := (true, "4042f325570e87b82c9d35e95ad599ec09bb842a1fa2e676c7eb0d1a7be33fac"), looks := false }, kinds := [], alts := [], goes := true, laidByText := true, laidKinds := [.sentinel], laidTests := true, laidLooks := .later }
def SurvivesCardSaid : Prop := Claim7.holds Tryz.pinned (.plain (OpenSpec.ofChange survivesSpec)) survivesCard

/-- THE TIED CARD OF 'mosaickeep.Goes'. -/
def goesCard : Claim7 := { stood := { row := goesRow, standIns := [], harness := (true, "4042f325570e87b82c9d35e95ad599ec09bb842a1fa2e676c7eb0d1a7be33fac"), looks := false }, kinds := [], alts := [], goes := true, laidByText := true, laidKinds := [.sentinel], laidTests := true, laidLooks := .later }
def GoesCardSaid : Prop := Claim7.holds Tryz.pinned (.plain (OpenSpec.ofChange goesSpec)) goesCard

/-- THE SECOND FORM's CARD OF 'mosaiclaw.Acts'. -/
def actsUptoCard : Claim7 := { stood := { row := actsUptoRow, standIns := [], harness := (true, "4042f325570e87b82c9d35e95ad599ec09bb842a1fa2e676c7eb0d1a7be33fac"), looks := false }, kinds := [], alts := [], goes := true, laidByText := true, laidKinds := [.sentinel], laidTests := true, laidLooks := .later }
def ActsUptoCardSaid : Prop := Claim7.holds Tryz.pinned (.plain (OpenSpec.upto actsSpec)) actsUptoCard

/-- THE SECOND FORM's CARD OF 'mosaickeep.Survives'. -/
def survivesUptoCard : Claim7 := { stood := { row := survivesUptoRow, standIns := [], harness := (true, "4042f325570e87b82c9d35e95ad599ec09bb842a1fa2e676c7eb0d1a7be33fac"), looks := false }, kinds := [], alts := [], goes := true, laidByText := true, laidKinds := [.sentinel], laidTests := true, laidLooks := .later }
def SurvivesUptoCardSaid : Prop := Claim7.holds Tryz.pinned (.plain (OpenSpec.upto survivesSpec)) survivesUptoCard

/-- THE SECOND FORM's CARD OF 'mosaickeep.Goes'. -/
def goesUptoCard : Claim7 := { stood := { row := goesUptoRow, standIns := [], harness := (true, "4042f325570e87b82c9d35e95ad599ec09bb842a1fa2e676c7eb0d1a7be33fac"), looks := false }, kinds := [], alts := [], goes := true, laidByText := true, laidKinds := [.sentinel], laidTests := true, laidLooks := .later }
def GoesUptoCardSaid : Prop := Claim7.holds Tryz.pinned (.plain (OpenSpec.upto goesSpec)) goesUptoCard
end Rows
end Go.Proofs.YtpiefebngnlfoaaGreatDoor
