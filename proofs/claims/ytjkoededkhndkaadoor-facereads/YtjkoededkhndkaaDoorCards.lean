/-
  DERIVED. GIVEN WITH THE SEED: THE CARDS: each row of YtjkoededkhndkaaDoorRows.lean that lists a variable, with what it lists TIED to the program's text (the seventh form; the later family's looks); each row that meets fmt, with fmt's text TOLD by the authors' own Lean function (tested against real Go, not proved from fmt's source: count such statements apart). THE CARD IS WHAT COUNTS. Prove the row's statement (the work); the ties are given (YtjkoededkhndkaaDoorTie.lean); close each card by the builder's one call (the guide's Derived/Test/ToyasCard.lean, 'card_holds'). Laid BY PROGRAM, IN A SANDBOX (cutbox-door.mjs). By AI agents, Wed Nov 11 2026. No macro, syntax, notation, axiom, sorry.
-/
import Derived.Test.YtjkoededkhndkaaDoorRows
import GoSem.ClaimSeven
namespace Go.Proofs.YtjkoededkhndkaaDoor
namespace Rows

/-- THE TIED CARD OF 'carlinglaw04.FaceReads'. -/
def faceReadsCard : Claim7 := { stood := { row := faceReadsRow, standIns := [], harness := (true, "5015ceb5229fb28e8ec12fef20b9df6e70c1cbe3a7623c554d890f1c02493cf9"), looks := true }, kinds := [], alts := [], laidByText := true, laidKinds := [.data, .data, .data, .sentinel, .sentinel], laidTests := true, laidLooks := .later }
def FaceReadsCardSaid : Prop := Claim7.holds Tryd.pinned (.plain (OpenSpec.ofChange faceReadsSpec)) faceReadsCard

/-- THE SECOND FORM's CARD OF 'carlinglaw04.FaceReads'. -/
def faceReadsUptoCard : Claim7 := { stood := { row := faceReadsUptoRow, standIns := [], harness := (true, "5015ceb5229fb28e8ec12fef20b9df6e70c1cbe3a7623c554d890f1c02493cf9"), looks := true }, kinds := [], alts := [], laidByText := true, laidKinds := [.data, .data, .data, .sentinel, .sentinel], laidTests := true, laidLooks := .later }
def FaceReadsUptoCardSaid : Prop := Claim7.holds Tryd.pinned (.plain (OpenSpec.upto faceReadsSpec)) faceReadsUptoCard
end Rows
end Go.Proofs.YtjkoededkhndkaaDoor
