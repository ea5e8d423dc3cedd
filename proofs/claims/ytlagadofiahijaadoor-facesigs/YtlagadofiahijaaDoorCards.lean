/-
  DERIVED. GIVEN WITH THE SEED: THE CARDS: each row of YtlagadofiahijaaDoorRows.lean that lists a variable, with what it lists TIED to the program's text (the seventh form; the later family's looks); each row that meets fmt, with fmt's text TOLD by the authors' own Lean function (tested against real Go, not proved from fmt's source: count such statements apart). THE CARD IS WHAT COUNTS. Prove the row's statement (the work); the ties are given (YtlagadofiahijaaDoorTie.lean); close each card by the builder's one call (the guide's Derived/Test/ToyasCard.lean, 'card_holds'). Laid BY PROGRAM, IN A SANDBOX (cutbox-door.mjs). By AI agents, Wed Nov 11 2026. No macro, syntax, notation, axiom, sorry.
-/
import Derived.Test.YtlagadofiahijaaDoorRows
import GoSem.ClaimSeven
namespace Go.Proofs.YtlagadofiahijaaDoor
namespace Rows

/-- THE TIED CARD OF 'carlinglaw04.FaceSigs'. -/
def faceSigsCard : Claim7 := { stood := { row := faceSigsRow, standIns := [], harness := (true, "b9ac823dd57700f249f5652893540f3906d42ee77c9231b271cf9569d28746ae"), looks := true }, kinds := [], alts := [], laidByText := true, laidKinds := [.data, .data, .data, .sentinel, .sentinel], laidTests := true, laidLooks := .later }
def FaceSigsCardSaid : Prop := Claim7.holds Tryd.pinned (.plain (OpenSpec.ofChange faceSigsSpec)) faceSigsCard

/-- THE SECOND FORM's CARD OF 'carlinglaw04.FaceSigs'. -/
def faceSigsUptoCard : Claim7 := { stood := { row := faceSigsUptoRow, standIns := [], harness := (true, "b9ac823dd57700f249f5652893540f3906d42ee77c9231b271cf9569d28746ae"), looks := true }, kinds := [], alts := [], laidByText := true, laidKinds := [.data, .data, .data, .sentinel, .sentinel], laidTests := true, laidLooks := .later }
def FaceSigsUptoCardSaid : Prop := Claim7.holds Tryd.pinned (.plain (OpenSpec.upto faceSigsSpec)) faceSigsUptoCard
end Rows
end Go.Proofs.YtlagadofiahijaaDoor
