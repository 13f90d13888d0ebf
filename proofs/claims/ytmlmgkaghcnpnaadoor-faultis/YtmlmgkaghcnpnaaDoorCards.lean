/-
  DERIVED. GIVEN WITH THE SEED: THE CARDS: each row of YtmlmgkaghcnpnaaDoorRows.lean that lists a variable, with what it lists TIED to the program's text (the seventh form; the later family's looks); each row that meets fmt, with fmt's text TOLD by the authors' own Lean function (tested against real Go, not proved from fmt's source: count such statements apart). THE CARD IS WHAT COUNTS. Prove the row's statement (the work); the ties are given (YtmlmgkaghcnpnaaDoorTie.lean); close each card by the builder's one call (the guide's Derived/Test/ToyasCard.lean, 'card_holds'). Laid BY PROGRAM, IN A SANDBOX (cutbox-door.mjs). By AI agents, Wed Nov 11 2026. No macro, syntax, notation, axiom, sorry.
-/
import Derived.Test.YtmlmgkaghcnpnaaDoorRows
import GoSem.ClaimSeven
namespace Go.Proofs.YtmlmgkaghcnpnaaDoor
namespace Rows

/-- THE TIED CARD OF 'sashlaw03.FaultTells'. -/
def faultTellsCard : Claim7 := { stood := { row := faultTellsRow, standIns := [], harness := (true, "0f5c14bbba8aa5fbb17e8958ce0066988718052053b6168d9cd18e18c5273803"), looks := true }, kinds := [], alts := [], laidByText := true, laidKinds := [.handle], laidTests := true, laidLooks := .later }
def FaultTellsCardSaid : Prop := Claim7.holds Tryd.pinned (.plain (OpenSpec.ofChange faultTellsSpec)) faultTellsCard

/-- THE TIED CARD OF 'sashlaw03.FaultJoins'. -/
def faultJoinsCard : Claim7 := { stood := { row := faultJoinsRow, standIns := [], harness := (true, "0f5c14bbba8aa5fbb17e8958ce0066988718052053b6168d9cd18e18c5273803"), looks := true }, kinds := [], alts := [], laidByText := true, laidKinds := [.handle], laidTests := true, laidLooks := .later }
def FaultJoinsCardSaid : Prop := Claim7.holds Tryd.pinned (.plain (OpenSpec.ofChange faultJoinsSpec)) faultJoinsCard

/-- THE TIED CARD OF 'sashlaw03.FaultIs'. -/
def faultIsCard : Claim7 := { stood := { row := faultIsRow, standIns := [], harness := (true, "0f5c14bbba8aa5fbb17e8958ce0066988718052053b6168d9cd18e18c5273803"), looks := true }, kinds := [], alts := [], laidByText := true, laidKinds := [.handle], laidTests := true, laidLooks := .later }
def FaultIsCardSaid : Prop := Claim7.holds Tryd.pinned (.plain (OpenSpec.ofChange faultIsSpec)) faultIsCard

/-- THE TIED CARD OF 'sashlaw03.FaultAlone'. -/
def faultAloneCard : Claim7 := { stood := { row := faultAloneRow, standIns := [], harness := (true, "0f5c14bbba8aa5fbb17e8958ce0066988718052053b6168d9cd18e18c5273803"), looks := true }, kinds := [], alts := [], laidByText := true, laidKinds := [.handle], laidTests := true, laidLooks := .later }
def FaultAloneCardSaid : Prop := Claim7.holds Tryd.pinned (.plain (OpenSpec.ofChange faultAloneSpec)) faultAloneCard

/-- THE SECOND FORM's CARD OF 'sashlaw03.FaultTells'. -/
def faultTellsUptoCard : Claim7 := { stood := { row := faultTellsUptoRow, standIns := [], harness := (true, "0f5c14bbba8aa5fbb17e8958ce0066988718052053b6168d9cd18e18c5273803"), looks := true }, kinds := [], alts := [], laidByText := true, laidKinds := [.handle], laidTests := true, laidLooks := .later }
def FaultTellsUptoCardSaid : Prop := Claim7.holds Tryd.pinned (.plain (OpenSpec.upto faultTellsSpec)) faultTellsUptoCard

/-- THE SECOND FORM's CARD OF 'sashlaw03.FaultJoins'. -/
def faultJoinsUptoCard : Claim7 := { stood := { row := faultJoinsUptoRow, standIns := [], harness := (true, "0f5c14bbba8aa5fbb17e8958ce0066988718052053b6168d9cd18e18c5273803"), looks := true }, kinds := [], alts := [], laidByText := true, laidKinds := [.handle], laidTests := true, laidLooks := .later }
def FaultJoinsUptoCardSaid : Prop := Claim7.holds Tryd.pinned (.plain (OpenSpec.upto faultJoinsSpec)) faultJoinsUptoCard

/-- THE SECOND FORM's CARD OF 'sashlaw03.FaultIs'. -/
def faultIsUptoCard : Claim7 := { stood := { row := faultIsUptoRow, standIns := [], harness := (true, "0f5c14bbba8aa5fbb17e8958ce0066988718052053b6168d9cd18e18c5273803"), looks := true }, kinds := [], alts := [], laidByText := true, laidKinds := [.handle], laidTests := true, laidLooks := .later }
def FaultIsUptoCardSaid : Prop := Claim7.holds Tryd.pinned (.plain (OpenSpec.upto faultIsSpec)) faultIsUptoCard

/-- THE SECOND FORM's CARD OF 'sashlaw03.FaultAlone'. -/
def faultAloneUptoCard : Claim7 := { stood := { row := faultAloneUptoRow, standIns := [], harness := (true, "0f5c14bbba8aa5fbb17e8958ce0066988718052053b6168d9cd18e18c5273803"), looks := true }, kinds := [], alts := [], laidByText := true, laidKinds := [.handle], laidTests := true, laidLooks := .later }
def FaultAloneUptoCardSaid : Prop := Claim7.holds Tryd.pinned (.plain (OpenSpec.upto faultAloneSpec)) faultAloneUptoCard
end Rows
end Go.Proofs.YtmlmgkaghcnpnaaDoor
