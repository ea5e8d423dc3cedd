/-
  DERIVED. GIVEN WITH THE SEED: THE CARDS: each row of YtkhlkemngejfeaaDoorRows.lean that lists a variable, with what it lists TIED to the program's text (the seventh form; the later family's looks); each row that meets fmt, with fmt's text TOLD by the authors' own Lean function (tested against real Go, not proved from fmt's source: count such statements apart). THE CARD IS WHAT COUNTS. Prove the row's statement (the work); the ties are given (YtkhlkemngejfeaaDoorTie.lean); close each card by the builder's one call (the guide's Derived/Test/ToyasCard.lean, 'card_holds'). Laid BY PROGRAM, IN A SANDBOX (cutbox-door.mjs). By AI agents, Wed Nov 11 2026. No macro, syntax, notation, axiom, sorry.
-/
import Derived.Test.YtkhlkemngejfeaaDoorRows
import GoSem.ClaimSeven
namespace Go.Proofs.YtkhlkemngejfeaaDoor
namespace Rows

/-- THE TIED CARD OF 'carlinglaw04.FaceSigs'. -/
def faceSigsCard : Claim7 := { stood := { row := faceSigsRow, standIns := [], harness := (true, "9f8952961c546724b5e32b40047390fec11030740a2b601b18e50d69bdd49677"), looks := true }, kinds := [], alts := [], laidByText := true, laidKinds := [.data, .data, .data, .sentinel, .sentinel], laidTests := true, laidLooks := .later }
def FaceSigsCardSaid : Prop := Claim7.holds Tryd.pinned (.plain (OpenSpec.ofChange faceSigsSpec)) faceSigsCard

/-- THE TIED CARD OF 'carlinglaw04.FaceTexts'. -/
def faceTextsCard : Claim7 := { stood := { row := faceTextsRow, standIns := [], harness := (true, "9f8952961c546724b5e32b40047390fec11030740a2b601b18e50d69bdd49677"), looks := true }, kinds := [], alts := [], laidByText := true, laidKinds := [.data, .data, .data, .sentinel, .sentinel], laidTests := true, laidLooks := .later }
def FaceTextsCardSaid : Prop := Claim7.holds Tryd.pinned (.plain (OpenSpec.ofChange faceTextsSpec)) faceTextsCard

/-- THE TIED CARD OF 'carlinglaw04.FaceReads'. -/
def faceReadsCard : Claim7 := { stood := { row := faceReadsRow, standIns := [], harness := (true, "9f8952961c546724b5e32b40047390fec11030740a2b601b18e50d69bdd49677"), looks := true }, kinds := [], alts := [], laidByText := true, laidKinds := [.data, .data, .data, .sentinel, .sentinel], laidTests := true, laidLooks := .later }
def FaceReadsCardSaid : Prop := Claim7.holds Tryd.pinned (.plain (OpenSpec.ofChange faceReadsSpec)) faceReadsCard

/-- THE TIED CARD OF 'carlinglaw04.FaceBack'. -/
def faceBackCard : Claim7 := { stood := { row := faceBackRow, standIns := [], harness := (true, "9f8952961c546724b5e32b40047390fec11030740a2b601b18e50d69bdd49677"), looks := true }, kinds := [], alts := [], laidByText := true, laidKinds := [.data, .data, .data, .sentinel, .sentinel], laidTests := true, laidLooks := .later }
def FaceBackCardSaid : Prop := Claim7.holds Tryd.pinned (.plain (OpenSpec.ofChange faceBackSpec)) faceBackCard

/-- THE TIED CARD OF 'carlinglaw04.FaceAgain'. -/
def faceAgainCard : Claim7 := { stood := { row := faceAgainRow, standIns := [], harness := (true, "9f8952961c546724b5e32b40047390fec11030740a2b601b18e50d69bdd49677"), looks := true }, kinds := [], alts := [], laidByText := true, laidKinds := [.data, .data, .data, .sentinel, .sentinel], laidTests := true, laidLooks := .later }
def FaceAgainCardSaid : Prop := Claim7.holds Tryd.pinned (.plain (OpenSpec.ofChange faceAgainSpec)) faceAgainCard

/-- THE TIED CARD OF 'carlinglaw04.FaceJoins'. -/
def faceJoinsCard : Claim7 := { stood := { row := faceJoinsRow, standIns := [], harness := (true, "9f8952961c546724b5e32b40047390fec11030740a2b601b18e50d69bdd49677"), looks := true }, kinds := [], alts := [], laidByText := true, laidKinds := [.data, .data, .data, .sentinel, .sentinel], laidTests := true, laidLooks := .later }
def FaceJoinsCardSaid : Prop := Claim7.holds Tryd.pinned (.plain (OpenSpec.ofChange faceJoinsSpec)) faceJoinsCard

/-- THE TIED CARD OF 'carlinglaw04.FaceFind'. -/
def faceFindCard : Claim7 := { stood := { row := faceFindRow, standIns := [], harness := (true, "9f8952961c546724b5e32b40047390fec11030740a2b601b18e50d69bdd49677"), looks := true }, kinds := [], alts := [], laidByText := true, laidKinds := [.data, .data, .data, .sentinel, .sentinel], laidTests := true, laidLooks := .later }
def FaceFindCardSaid : Prop := Claim7.holds Tryd.pinned (.plain (OpenSpec.ofChange faceFindSpec)) faceFindCard

/-- THE SECOND FORM's CARD OF 'carlinglaw04.FaceSigs'. -/
def faceSigsUptoCard : Claim7 := { stood := { row := faceSigsUptoRow, standIns := [], harness := (true, "9f8952961c546724b5e32b40047390fec11030740a2b601b18e50d69bdd49677"), looks := true }, kinds := [], alts := [], laidByText := true, laidKinds := [.data, .data, .data, .sentinel, .sentinel], laidTests := true, laidLooks := .later }
def FaceSigsUptoCardSaid : Prop := Claim7.holds Tryd.pinned (.plain (OpenSpec.upto faceSigsSpec)) faceSigsUptoCard

/-- THE SECOND FORM's CARD OF 'carlinglaw04.FaceTexts'. -/
def faceTextsUptoCard : Claim7 := { stood := { row := faceTextsUptoRow, standIns := [], harness := (true, "9f8952961c546724b5e32b40047390fec11030740a2b601b18e50d69bdd49677"), looks := true }, kinds := [], alts := [], laidByText := true, laidKinds := [.data, .data, .data, .sentinel, .sentinel], laidTests := true, laidLooks := .later }
def FaceTextsUptoCardSaid : Prop := Claim7.holds Tryd.pinned (.plain (OpenSpec.upto faceTextsSpec)) faceTextsUptoCard

/-- THE SECOND FORM's CARD OF 'carlinglaw04.FaceReads'. -/
def faceReadsUptoCard : Claim7 := { stood := { row := faceReadsUptoRow, standIns := [], harness := (true, "9f8952961c546724b5e32b40047390fec11030740a2b601b18e50d69bdd49677"), looks := true }, kinds := [], alts := [], laidByText := true, laidKinds := [.data, .data, .data, .sentinel, .sentinel], laidTests := true, laidLooks := .later }
def FaceReadsUptoCardSaid : Prop := Claim7.holds Tryd.pinned (.plain (OpenSpec.upto faceReadsSpec)) faceReadsUptoCard

/-- THE SECOND FORM's CARD OF 'carlinglaw04.FaceBack'. -/
def faceBackUptoCard : Claim7 := { stood := { row := faceBackUptoRow, standIns := [], harness := (true, "9f8952961c546724b5e32b40047390fec11030740a2b601b18e50d69bdd49677"), looks := true }, kinds := [], alts := [], laidByText := true, laidKinds := [.data, .data, .data, .sentinel, .sentinel], laidTests := true, laidLooks := .later }
def FaceBackUptoCardSaid : Prop := Claim7.holds Tryd.pinned (.plain (OpenSpec.upto faceBackSpec)) faceBackUptoCard

/-- THE SECOND FORM's CARD OF 'carlinglaw04.FaceAgain'. -/
def faceAgainUptoCard : Claim7 := { stood := { row := faceAgainUptoRow, standIns := [], harness := (true, "9f8952961c546724b5e32b40047390fec11030740a2b601b18e50d69bdd49677"), looks := true }, kinds := [], alts := [], laidByText := true, laidKinds := [.data, .data, .data, .sentinel, .sentinel], laidTests := true, laidLooks := .later }
def FaceAgainUptoCardSaid : Prop := Claim7.holds Tryd.pinned (.plain (OpenSpec.upto faceAgainSpec)) faceAgainUptoCard

/-- THE SECOND FORM's CARD OF 'carlinglaw04.FaceJoins'. -/
def faceJoinsUptoCard : Claim7 := { stood := { row := faceJoinsUptoRow, standIns := [], harness := (true, "9f8952961c546724b5e32b40047390fec11030740a2b601b18e50d69bdd49677"), looks := true }, kinds := [], alts := [], laidByText := true, laidKinds := [.data, .data, .data, .sentinel, .sentinel], laidTests := true, laidLooks := .later }
def FaceJoinsUptoCardSaid : Prop := Claim7.holds Tryd.pinned (.plain (OpenSpec.upto faceJoinsSpec)) faceJoinsUptoCard

/-- THE SECOND FORM's CARD OF 'carlinglaw04.FaceFind'. -/
def faceFindUptoCard : Claim7 := { stood := { row := faceFindUptoRow, standIns := [], harness := (true, "9f8952961c546724b5e32b40047390fec11030740a2b601b18e50d69bdd49677"), looks := true }, kinds := [], alts := [], laidByText := true, laidKinds := [.data, .data, .data, .sentinel, .sentinel], laidTests := true, laidLooks := .later }
def FaceFindUptoCardSaid : Prop := Claim7.holds Tryd.pinned (.plain (OpenSpec.upto faceFindSpec)) faceFindUptoCard
end Rows
end Go.Proofs.YtkhlkemngejfeaaDoor
