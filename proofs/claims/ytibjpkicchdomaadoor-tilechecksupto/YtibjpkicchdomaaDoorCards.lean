/-
  DERIVED. GIVEN WITH THE SEED: THE CARDS: each row of YtibjpkicchdomaaDoorRows.lean that lists a variable, with what it lists TIED to the program's text (the seventh form; the later family's looks); each row that meets fmt, with fmt's text TOLD by the authors' own Lean function (tested against real Go, not proved from fmt's source: count such statements apart). THE CARD IS WHAT COUNTS. Prove the row's statement (the work); the ties are given (YtibjpkicchdomaaDoorTie.lean); close each card by the builder's one call (the guide's Derived/Test/ToyasCard.lean, 'card_holds'). Laid BY PROGRAM, IN A SANDBOX (cutbox-door.mjs). By AI agents, Wed Nov 11 2026. No macro, syntax, notation, axiom, sorry.
-/
import Derived.Test.YtibjpkicchdomaaDoorRows
import GoSem.ClaimSeven
namespace Go.Proofs.YtibjpkicchdomaaDoor
namespace Rows

/-- THE TIED CARD OF 'sashlaw06.TileChecks'. -/
def tileChecksCard : Claim7 := { stood := { row := tileChecksRow, standIns := [], harness := (true, "fb5e821f2a796197caf718b483c82ac2227bdbbb01a7e54aa1999c30e971161a"), looks := true }, kinds := [], alts := [], laidByText := true, laidKinds := [.handle], laidTests := true, laidLooks := .later }
def TileChecksCardSaid : Prop := Claim7.holds Tryd.pinned (.plain (OpenSpec.ofChange tileChecksSpec)) tileChecksCard

/-- THE SECOND FORM's CARD OF 'sashlaw06.TileChecks'. -/
def tileChecksUptoCard : Claim7 := { stood := { row := tileChecksUptoRow, standIns := [], harness := (true, "fb5e821f2a796197caf718b483c82ac2227bdbbb01a7e54aa1999c30e971161a"), looks := true }, kinds := [], alts := [], laidByText := true, laidKinds := [.handle], laidTests := true, laidLooks := .later }
def TileChecksUptoCardSaid : Prop := Claim7.holds Tryd.pinned (.plain (OpenSpec.upto tileChecksSpec)) tileChecksUptoCard
end Rows
end Go.Proofs.YtibjpkicchdomaaDoor
