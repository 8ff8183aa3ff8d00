/-
  DERIVED. GIVEN WITH THE SEED: THE CARDS: each row of YtldeiiffabfmeaaGreatDoorRows.lean that lists a variable, with what it lists TIED to the program's text (the seventh form; the later family's looks); each row that meets fmt, with fmt's text TOLD by the authors' own Lean function (tested against real Go, not proved from fmt's source: count such statements apart). THE CARD IS WHAT COUNTS. Prove the row's statement (the work); the ties are given (YtldeiiffabfmeaaGreatDoorTie.lean); close each card by the builder's one call (the guide's Derived/Test/ToyasCard.lean, 'card_holds'). Laid BY PROGRAM, IN A SANDBOX (cutbox-door.mjs). By AI agents, Wed Nov 11 2026. No macro, syntax, notation, axiom, sorry.
-/
import Derived.Test.YtldeiiffabfmeaaGreatDoorRows
import GoSem.ClaimSeven
namespace Go.Proofs.YtldeiiffabfmeaaGreatDoor
namespace Rows

/-- THE TIED CARD OF 'orderlylaw.Opens'. -/
def opensCard : Claim7 := { stood := { row := opensRow, standIns := [], harness := (true, "75401df24df801c2e73e475343a57c4ec46d97de8e8695570e402908bc4c6bda"), looks := false }, kinds := [], alts := [], goes := true, laidByText := true, laidKinds := [.funcs], laidTests := true, laidLooks := .later }
def OpensCardSaid : Prop := Claim7.holds Tryz.pinned (.plain (OpenSpec.ofChange opensSpec)) opensCard

/-- THE TIED CARD OF 'orderlylaw.Single'. -/
def singleCard : Claim7 := { stood := { row := singleRow, standIns := [], harness := (true, "75401df24df801c2e73e475343a57c4ec46d97de8e8695570e402908bc4c6bda"), looks := false }, kinds := [], alts := [], goes := true, laidByText := true, laidKinds := [.funcs], laidTests := true, laidLooks := .later }
def SingleCardSaid : Prop := Claim7.holds Tryz.pinned (.plain (OpenSpec.ofChange singleSpec)) singleCard

/-- THE TIED CARD OF 'orderlylaw.Picked'. -/
def pickedCard : Claim7 := { stood := { row := pickedRow, standIns := [], harness := (true, "75401df24df801c2e73e475343a57c4ec46d97de8e8695570e402908bc4c6bda"), looks := false }, kinds := [], alts := [], goes := true, laidByText := true, laidKinds := [.funcs], laidTests := true, laidLooks := .later }
def PickedCardSaid : Prop := Claim7.holds Tryz.pinned (.plain (OpenSpec.ofChange pickedSpec)) pickedCard

/-- THE TIED CARD OF 'orderlykeep.Serial'. -/
def serialCard : Claim7 := { stood := { row := serialRow, standIns := [], harness := (true, "75401df24df801c2e73e475343a57c4ec46d97de8e8695570e402908bc4c6bda"), looks := false }, kinds := [], alts := [], goes := true, laidByText := true, laidKinds := [.funcs], laidTests := true, laidLooks := .later }
def SerialCardSaid : Prop := Claim7.holds Tryz.pinned (.plain (OpenSpec.ofChange serialSpec)) serialCard

/-- THE TIED CARD OF 'orderlykeep.Goes'. -/
def goesCard : Claim7 := { stood := { row := goesRow, standIns := [], harness := (true, "75401df24df801c2e73e475343a57c4ec46d97de8e8695570e402908bc4c6bda"), looks := false }, kinds := [], alts := [], goes := true, laidByText := true, laidKinds := [.funcs], laidTests := true, laidLooks := .later }
def GoesCardSaid : Prop := Claim7.holds Tryz.pinned (.plain (OpenSpec.ofChange goesSpec)) goesCard

/-- THE TIED CARD OF 'orderlykeep.Ends'. -/
def endsCard : Claim7 := { stood := { row := endsRow, standIns := [], harness := (true, "75401df24df801c2e73e475343a57c4ec46d97de8e8695570e402908bc4c6bda"), looks := false }, kinds := [], alts := [], goes := true, laidByText := true, laidKinds := [.funcs], laidTests := true, laidLooks := .later }
def EndsCardSaid : Prop := Claim7.holds Tryz.pinned (.plain (OpenSpec.ofChange endsSpec)) endsCard

/-- THE TIED CARD OF 'orderlykeep.Bounded'. -/
def boundedCard : Claim7 := { stood := { row := boundedRow, standIns := [], harness := (true, "75401df24df801c2e73e475343a57c4ec46d97de8e8695570e402908bc4c6bda"), looks := false }, kinds := [], alts := [], goes := true, laidByText := true, laidKinds := [.funcs], laidTests := true, laidLooks := .later }
def BoundedCardSaid : Prop := Claim7.holds Tryz.pinned (.plain (OpenSpec.ofChange boundedSpec)) boundedCard

/-- THE TIED CARD OF 'orderlykeep.Alike'. -/
def alikeCard : Claim7 := { stood := { row := alikeRow, standIns := [], harness := (true, "75401df24df801c2e73e475343a57c4ec46d97de8e8695570e402908bc4c6bda"), looks := false }, kinds := [], alts := [], goes := true, laidByText := true, laidKinds := [.funcs], laidTests := true, laidLooks := .later }
def AlikeCardSaid : Prop := Claim7.holds Tryz.pinned (.plain (OpenSpec.ofChange alikeSpec)) alikeCard

/-- THE TIED CARD OF 'orderlylaw.All'. -/
def allCard : Claim7 := { stood := { row := allRow, standIns := [], harness := (true, "75401df24df801c2e73e475343a57c4ec46d97de8e8695570e402908bc4c6bda"), looks := false }, kinds := [], alts := [], goes := true, laidByText := true, laidKinds := [.funcs], laidTests := true, laidLooks := .later }
def AllCardSaid : Prop := Claim7.holds Tryz.pinned (.plain (OpenSpec.ofChange allSpec)) allCard

/-- THE SECOND FORM's CARD OF 'orderlylaw.Opens'. -/
def opensUptoCard : Claim7 := { stood := { row := opensUptoRow, standIns := [], harness := (true, "75401df24df801c2e73e475343a57c4ec46d97de8e8695570e402908bc4c6bda"), looks := false }, kinds := [], alts := [], goes := true, laidByText := true, laidKinds := [.funcs], laidTests := true, laidLooks := .later }
def OpensUptoCardSaid : Prop := Claim7.holds Tryz.pinned (.plain (OpenSpec.upto opensSpec)) opensUptoCard

/-- THE SECOND FORM's CARD OF 'orderlylaw.Single'. -/
def singleUptoCard : Claim7 := { stood := { row := singleUptoRow, standIns := [], harness := (true, "75401df24df801c2e73e475343a57c4ec46d97de8e8695570e402908bc4c6bda"), looks := false }, kinds := [], alts := [], goes := true, laidByText := true, laidKinds := [.funcs], laidTests := true, laidLooks := .later }
def SingleUptoCardSaid : Prop := Claim7.holds Tryz.pinned (.plain (OpenSpec.upto singleSpec)) singleUptoCard

/-- THE SECOND FORM's CARD OF 'orderlylaw.Picked'. -/
def pickedUptoCard : Claim7 := { stood := { row := pickedUptoRow, standIns := [], harness := (true, "75401df24df801c2e73e475343a57c4ec46d97de8e8695570e402908bc4c6bda"), looks := false }, kinds := [], alts := [], goes := true, laidByText := true, laidKinds := [.funcs], laidTests := true, laidLooks := .later }
def PickedUptoCardSaid : Prop := Claim7.holds Tryz.pinned (.plain (OpenSpec.upto pickedSpec)) pickedUptoCard

/-- THE SECOND FORM's CARD OF 'orderlykeep.Serial'. -/
def serialUptoCard : Claim7 := { stood := { row := serialUptoRow, standIns := [], harness := (true, "75401df24df801c2e73e475343a57c4ec46d97de8e8695570e402908bc4c6bda"), looks := false }, kinds := [], alts := [], goes := true, laidByText := true, laidKinds := [.funcs], laidTests := true, laidLooks := .later }
def SerialUptoCardSaid : Prop := Claim7.holds Tryz.pinned (.plain (OpenSpec.upto serialSpec)) serialUptoCard

/-- THE SECOND FORM's CARD OF 'orderlykeep.Goes'. -/
def goesUptoCard : Claim7 := { stood := { row := goesUptoRow, standIns := [], harness := (true, "75401df24df801c2e73e475343a57c4ec46d97de8e8695570e402908bc4c6bda"), looks := false }, kinds := [], alts := [], goes := true, laidByText := true, laidKinds := [.funcs], laidTests := true, laidLooks := .later }
def GoesUptoCardSaid : Prop := Claim7.holds Tryz.pinned (.plain (OpenSpec.upto goesSpec)) goesUptoCard

/-- THE SECOND FORM's CARD OF 'orderlykeep.Ends'. -/
def endsUptoCard : Claim7 := { stood := { row := endsUptoRow, standIns := [], harness := (true, "75401df24df801c2e73e475343a57c4ec46d97de8e8695570e402908bc4c6bda"), looks := false }, kinds := [], alts := [], goes := true, laidByText := true, laidKinds := [.funcs], laidTests := true, laidLooks := .later }
def EndsUptoCardSaid : Prop := Claim7.holds Tryz.pinned (.plain (OpenSpec.upto endsSpec)) endsUptoCard

/-- THE SECOND FORM's CARD OF 'orderlykeep.Bounded'. -/
def boundedUptoCard : Claim7 := { stood := { row := boundedUptoRow, standIns := [], harness := (true, "75401df24df801c2e73e475343a57c4ec46d97de8e8695570e402908bc4c6bda"), looks := false }, kinds := [], alts := [], goes := true, laidByText := true, laidKinds := [.funcs], laidTests := true, laidLooks := .later }
def BoundedUptoCardSaid : Prop := Claim7.holds Tryz.pinned (.plain (OpenSpec.upto boundedSpec)) boundedUptoCard

/-- THE SECOND FORM's CARD OF 'orderlykeep.Alike'. -/
def alikeUptoCard : Claim7 := { stood := { row := alikeUptoRow, standIns := [], harness := (true, "75401df24df801c2e73e475343a57c4ec46d97de8e8695570e402908bc4c6bda"), looks := false }, kinds := [], alts := [], goes := true, laidByText := true, laidKinds := [.funcs], laidTests := true, laidLooks := .later }
def AlikeUptoCardSaid : Prop := Claim7.holds Tryz.pinned (.plain (OpenSpec.upto alikeSpec)) alikeUptoCard

/-- THE SECOND FORM's CARD OF 'orderlylaw.All'. -/
def allUptoCard : Claim7 := { stood := { row := allUptoRow, standIns := [], harness := (true, "75401df24df801c2e73e475343a57c4ec46d97de8e8695570e402908bc4c6bda"), looks := false }, kinds := [], alts := [], goes := true, laidByText := true, laidKinds := [.funcs], laidTests := true, laidLooks := .later }
def AllUptoCardSaid : Prop := Claim7.holds Tryz.pinned (.plain (OpenSpec.upto allSpec)) allUptoCard
end Rows
end Go.Proofs.YtldeiiffabfmeaaGreatDoor
