/-
  DERIVED. GIVEN WITH THE SEED: THE CARDS: each row of YtpiefebngnlfoabGreatDoorRows.lean that lists a variable, with what it lists TIED to the program's text (the seventh form; the later family's looks); each row that meets fmt, with fmt's text TOLD by the authors' own Lean function (tested against real Go, not proved from fmt's source: count such statements apart). THE CARD IS WHAT COUNTS. Prove the row's statement (the work); the ties are given (YtpiefebngnlfoabGreatDoorTie.lean); close each card by the builder's one call (the guide's Derived/Test/ToyasCard.lean, 'card_holds'). Laid BY PROGRAM, IN A SANDBOX (cutbox-door.mjs). By AI agents, Wed Nov 11 2026. No macro, syntax, notation, axiom, sorry.
-/
import Derived.Test.YtpiefebngnlfoabGreatDoorRows
import GoSem.ClaimSeven
namespace Go.Proofs.YtpiefebngnlfoabGreatDoor
namespace Rows

/-- THE TIED CARD OF 'mosaickeep.Worst'. -/
def worstCard : Claim7 := { stood := { row := worstRow, standIns := [], harness := (true, "bfb9a540d6fc851f37214bd744cd3ee9ea64018e049e40ce2238d5f6540a9b8b"), looks := false }, kinds := [], alts := [], goes := true, laidByText := true, laidKinds := [.sentinel], laidTests := true, laidLooks := .later }
def WorstCardSaid : Prop := Claim7.holds Tryz.pinned (.plain (OpenSpec.ofChange worstSpec)) worstCard

/-- THE TIED CARD OF 'mosaickeep.Left'. -/
def leftCard : Claim7 := { stood := { row := leftRow, standIns := [], harness := (true, "bfb9a540d6fc851f37214bd744cd3ee9ea64018e049e40ce2238d5f6540a9b8b"), looks := false }, kinds := [], alts := [], goes := true, laidByText := true, laidKinds := [.sentinel], laidTests := true, laidLooks := .later }
def LeftCardSaid : Prop := Claim7.holds Tryz.pinned (.plain (OpenSpec.ofChange leftSpec)) leftCard

/-- THE TIED CARD OF 'mosaickeep.Metered'. -/
def meteredCard : Claim7 := { stood := { row := meteredRow, standIns := [], harness := (true, "bfb9a540d6fc851f37214bd744cd3ee9ea64018e049e40ce2238d5f6540a9b8b"), looks := false }, kinds := [], alts := [], goes := true, laidByText := true, laidKinds := [.sentinel], laidTests := true, laidLooks := .later }
def MeteredCardSaid : Prop := Claim7.holds Tryz.pinned (.plain (OpenSpec.ofChange meteredSpec)) meteredCard

/-- THE TIED CARD OF 'mosaickeep.Often'. -/
def oftenCard : Claim7 := { stood := { row := oftenRow, standIns := [], harness := (true, "bfb9a540d6fc851f37214bd744cd3ee9ea64018e049e40ce2238d5f6540a9b8b"), looks := false }, kinds := [], alts := [], goes := true, laidByText := true, laidKinds := [.sentinel], laidTests := true, laidLooks := .later }
def OftenCardSaid : Prop := Claim7.holds Tryz.pinned (.plain (OpenSpec.ofChange oftenSpec)) oftenCard

/-- THE SECOND FORM's CARD OF 'mosaickeep.Worst'. -/
def worstUptoCard : Claim7 := { stood := { row := worstUptoRow, standIns := [], harness := (true, "bfb9a540d6fc851f37214bd744cd3ee9ea64018e049e40ce2238d5f6540a9b8b"), looks := false }, kinds := [], alts := [], goes := true, laidByText := true, laidKinds := [.sentinel], laidTests := true, laidLooks := .later }
def WorstUptoCardSaid : Prop := Claim7.holds Tryz.pinned (.plain (OpenSpec.upto worstSpec)) worstUptoCard

/-- THE SECOND FORM's CARD OF 'mosaickeep.Left'. -/
def leftUptoCard : Claim7 := { stood := { row := leftUptoRow, standIns := [], harness := (true, "bfb9a540d6fc851f37214bd744cd3ee9ea64018e049e40ce2238d5f6540a9b8b"), looks := false }, kinds := [], alts := [], goes := true, laidByText := true, laidKinds := [.sentinel], laidTests := true, laidLooks := .later }
def LeftUptoCardSaid : Prop := Claim7.holds Tryz.pinned (.plain (OpenSpec.upto leftSpec)) leftUptoCard

/-- THE SECOND FORM's CARD OF 'mosaickeep.Metered'. -/
def meteredUptoCard : Claim7 := { stood := { row := meteredUptoRow, standIns := [], harness := (true, "bfb9a540d6fc851f37214bd744cd3ee9ea64018e049e40ce2238d5f6540a9b8b"), looks := false }, kinds := [], alts := [], goes := true, laidByText := true, laidKinds := [.sentinel], laidTests := true, laidLooks := .later }
def MeteredUptoCardSaid : Prop := Claim7.holds Tryz.pinned (.plain (OpenSpec.upto meteredSpec)) meteredUptoCard

/-- THE SECOND FORM's CARD OF 'mosaickeep.Often'. -/
def oftenUptoCard : Claim7 := { stood := { row := oftenUptoRow, standIns := [], harness := (true, "bfb9a540d6fc851f37214bd744cd3ee9ea64018e049e40ce2238d5f6540a9b8b"), looks := false }, kinds := [], alts := [], goes := true, laidByText := true, laidKinds := [.sentinel], laidTests := true, laidLooks := .later }
def OftenUptoCardSaid : Prop := Claim7.holds Tryz.pinned (.plain (OpenSpec.upto oftenSpec)) oftenUptoCard
end Rows
end Go.Proofs.YtpiefebngnlfoabGreatDoor
