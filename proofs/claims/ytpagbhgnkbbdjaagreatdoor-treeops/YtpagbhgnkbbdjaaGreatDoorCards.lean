/-
  DERIVED. GIVEN WITH THE SEED: THE CARDS: each row of YtpagbhgnkbbdjaaGreatDoorRows.lean that lists a variable, with what it lists TIED to the program's text (the seventh form; the later family's looks); each row that meets fmt, with fmt's text TOLD by the authors' own Lean function (tested against real Go, not proved from fmt's source: count such statements apart). THE CARD IS WHAT COUNTS. Prove the row's statement (the work); the ties are given (YtpagbhgnkbbdjaaGreatDoorTie.lean); close each card by the builder's one call (the guide's Derived/Test/ToyasCard.lean, 'card_holds'). Laid BY PROGRAM, IN A SANDBOX (cutbox-door.mjs). By AI agents, Wed Nov 11 2026. No macro, syntax, notation, axiom, sorry.
-/
import Derived.Test.YtpagbhgnkbbdjaaGreatDoorRows
import GoSem.ClaimSeven
namespace Go.Proofs.YtpagbhgnkbbdjaaGreatDoor
namespace Rows

/-- THE TIED CARD OF 'carlinglaw03.TreeTexts'. -/
def treeTextsCard : Claim7 := { stood := { row := treeTextsRow, standIns := [], harness := (true, "2ec6ded0bfa57a7866907ed9f93c0f194938b805d3473889e8cc30a1a1d66482"), looks := true }, kinds := [], alts := [], laidByText := true, laidKinds := [.data, .data, .data, .sentinel, .sentinel], laidTests := true, laidLooks := .later }
def TreeTextsCardSaid : Prop := Claim7.holds Tryz.pinned (.plain (OpenSpec.ofChange treeTextsSpec)) treeTextsCard

/-- THE TIED CARD OF 'carlinglaw03.TreeNodes'. -/
def treeNodesCard : Claim7 := { stood := { row := treeNodesRow, standIns := [], harness := (true, "2ec6ded0bfa57a7866907ed9f93c0f194938b805d3473889e8cc30a1a1d66482"), looks := true }, kinds := [], alts := [], laidByText := true, laidKinds := [.data, .data, .data, .sentinel, .sentinel], laidTests := true, laidLooks := .later }
def TreeNodesCardSaid : Prop := Claim7.holds Tryz.pinned (.plain (OpenSpec.ofChange treeNodesSpec)) treeNodesCard

/-- THE TIED CARD OF 'carlinglaw03.TreeBack'. -/
def treeBackCard : Claim7 := { stood := { row := treeBackRow, standIns := [], harness := (true, "2ec6ded0bfa57a7866907ed9f93c0f194938b805d3473889e8cc30a1a1d66482"), looks := true }, kinds := [], alts := [], laidByText := true, laidKinds := [.data, .data, .data, .sentinel, .sentinel], laidTests := true, laidLooks := .later }
def TreeBackCardSaid : Prop := Claim7.holds Tryz.pinned (.plain (OpenSpec.ofChange treeBackSpec)) treeBackCard

/-- THE TIED CARD OF 'carlinglaw03.TreeAgain'. -/
def treeAgainCard : Claim7 := { stood := { row := treeAgainRow, standIns := [], harness := (true, "2ec6ded0bfa57a7866907ed9f93c0f194938b805d3473889e8cc30a1a1d66482"), looks := true }, kinds := [], alts := [], laidByText := true, laidKinds := [.data, .data, .data, .sentinel, .sentinel], laidTests := true, laidLooks := .later }
def TreeAgainCardSaid : Prop := Claim7.holds Tryz.pinned (.plain (OpenSpec.ofChange treeAgainSpec)) treeAgainCard

/-- THE TIED CARD OF 'carlinglaw03.TreeNames'. -/
def treeNamesCard : Claim7 := { stood := { row := treeNamesRow, standIns := [], harness := (true, "2ec6ded0bfa57a7866907ed9f93c0f194938b805d3473889e8cc30a1a1d66482"), looks := true }, kinds := [], alts := [], laidByText := true, laidKinds := [.data, .data, .data, .sentinel, .sentinel], laidTests := true, laidLooks := .later }
def TreeNamesCardSaid : Prop := Claim7.holds Tryz.pinned (.plain (OpenSpec.ofChange treeNamesSpec)) treeNamesCard

/-- THE TIED CARD OF 'carlinglaw03.TreeOps'. -/
def treeOpsCard : Claim7 := { stood := { row := treeOpsRow, standIns := [], harness := (true, "2ec6ded0bfa57a7866907ed9f93c0f194938b805d3473889e8cc30a1a1d66482"), looks := true }, kinds := [], alts := [], laidByText := true, laidKinds := [.data, .data, .data, .sentinel, .sentinel], laidTests := true, laidLooks := .later }
def TreeOpsCardSaid : Prop := Claim7.holds Tryz.pinned (.plain (OpenSpec.ofChange treeOpsSpec)) treeOpsCard

/-- THE TIED CARD OF 'carlinglaw06.MeanRuns'. -/
def meanRunsCard : Claim7 := { stood := { row := meanRunsRow, standIns := [], harness := (true, "2ec6ded0bfa57a7866907ed9f93c0f194938b805d3473889e8cc30a1a1d66482"), looks := true }, kinds := [], alts := [], laidByText := true, laidKinds := [.data, .data, .data], laidTests := true, laidLooks := .later }
def MeanRunsCardSaid : Prop := Claim7.holds Tryz.pinned (.plain (OpenSpec.ofChange meanRunsSpec)) meanRunsCard

/-- THE TIED CARD OF 'carlinglaw06.MeanOthers'. -/
def meanOthersCard : Claim7 := { stood := { row := meanOthersRow, standIns := [], harness := (true, "2ec6ded0bfa57a7866907ed9f93c0f194938b805d3473889e8cc30a1a1d66482"), looks := true }, kinds := [], alts := [], laidByText := true, laidKinds := [.data, .data, .data], laidTests := true, laidLooks := .later }
def MeanOthersCardSaid : Prop := Claim7.holds Tryz.pinned (.plain (OpenSpec.ofChange meanOthersSpec)) meanOthersCard

/-- THE TIED CARD OF 'carlinglaw06.MeanOps'. -/
def meanOpsCard : Claim7 := { stood := { row := meanOpsRow, standIns := [], harness := (true, "2ec6ded0bfa57a7866907ed9f93c0f194938b805d3473889e8cc30a1a1d66482"), looks := true }, kinds := [], alts := [], laidByText := true, laidKinds := [.data, .data, .data], laidTests := true, laidLooks := .later }
def MeanOpsCardSaid : Prop := Claim7.holds Tryz.pinned (.plain (OpenSpec.ofChange meanOpsSpec)) meanOpsCard

/-- THE TIED CARD OF 'carlinglaw06.MeanLoops'. -/
def meanLoopsCard : Claim7 := { stood := { row := meanLoopsRow, standIns := [], harness := (true, "2ec6ded0bfa57a7866907ed9f93c0f194938b805d3473889e8cc30a1a1d66482"), looks := true }, kinds := [], alts := [], laidByText := true, laidKinds := [.data, .data, .data], laidTests := true, laidLooks := .later }
def MeanLoopsCardSaid : Prop := Claim7.holds Tryz.pinned (.plain (OpenSpec.ofChange meanLoopsSpec)) meanLoopsCard

/-- THE TIED CARD OF 'carlinglaw06.MeanCalls'. -/
def meanCallsCard : Claim7 := { stood := { row := meanCallsRow, standIns := [], harness := (true, "2ec6ded0bfa57a7866907ed9f93c0f194938b805d3473889e8cc30a1a1d66482"), looks := true }, kinds := [], alts := [], laidByText := true, laidKinds := [.data, .data, .data], laidTests := true, laidLooks := .later }
def MeanCallsCardSaid : Prop := Claim7.holds Tryz.pinned (.plain (OpenSpec.ofChange meanCallsSpec)) meanCallsCard

/-- THE TIED CARD OF 'carlinglaw06.MeanGoes'. -/
def meanGoesCard : Claim7 := { stood := { row := meanGoesRow, standIns := [], harness := (true, "2ec6ded0bfa57a7866907ed9f93c0f194938b805d3473889e8cc30a1a1d66482"), looks := true }, kinds := [], alts := [], laidByText := true, laidKinds := [.data, .data, .data], laidTests := true, laidLooks := .later }
def MeanGoesCardSaid : Prop := Claim7.holds Tryz.pinned (.plain (OpenSpec.ofChange meanGoesSpec)) meanGoesCard

/-- THE SECOND FORM's CARD OF 'carlinglaw03.TreeTexts'. -/
def treeTextsUptoCard : Claim7 := { stood := { row := treeTextsUptoRow, standIns := [], harness := (true, "2ec6ded0bfa57a7866907ed9f93c0f194938b805d3473889e8cc30a1a1d66482"), looks := true }, kinds := [], alts := [], laidByText := true, laidKinds := [.data, .data, .data, .sentinel, .sentinel], laidTests := true, laidLooks := .later }
def TreeTextsUptoCardSaid : Prop := Claim7.holds Tryz.pinned (.plain (OpenSpec.upto treeTextsSpec)) treeTextsUptoCard

/-- THE SECOND FORM's CARD OF 'carlinglaw03.TreeNodes'. -/
def treeNodesUptoCard : Claim7 := { stood := { row := treeNodesUptoRow, standIns := [], harness := (true, "2ec6ded0bfa57a7866907ed9f93c0f194938b805d3473889e8cc30a1a1d66482"), looks := true }, kinds := [], alts := [], laidByText := true, laidKinds := [.data, .data, .data, .sentinel, .sentinel], laidTests := true, laidLooks := .later }
def TreeNodesUptoCardSaid : Prop := Claim7.holds Tryz.pinned (.plain (OpenSpec.upto treeNodesSpec)) treeNodesUptoCard

/-- THE SECOND FORM's CARD OF 'carlinglaw03.TreeBack'. -/
def treeBackUptoCard : Claim7 := { stood := { row := treeBackUptoRow, standIns := [], harness := (true, "2ec6ded0bfa57a7866907ed9f93c0f194938b805d3473889e8cc30a1a1d66482"), looks := true }, kinds := [], alts := [], laidByText := true, laidKinds := [.data, .data, .data, .sentinel, .sentinel], laidTests := true, laidLooks := .later }
def TreeBackUptoCardSaid : Prop := Claim7.holds Tryz.pinned (.plain (OpenSpec.upto treeBackSpec)) treeBackUptoCard

/-- THE SECOND FORM's CARD OF 'carlinglaw03.TreeAgain'. -/
def treeAgainUptoCard : Claim7 := { stood := { row := treeAgainUptoRow, standIns := [], harness := (true, "2ec6ded0bfa57a7866907ed9f93c0f194938b805d3473889e8cc30a1a1d66482"), looks := true }, kinds := [], alts := [], laidByText := true, laidKinds := [.data, .data, .data, .sentinel, .sentinel], laidTests := true, laidLooks := .later }
def TreeAgainUptoCardSaid : Prop := Claim7.holds Tryz.pinned (.plain (OpenSpec.upto treeAgainSpec)) treeAgainUptoCard

/-- THE SECOND FORM's CARD OF 'carlinglaw03.TreeNames'. -/
def treeNamesUptoCard : Claim7 := { stood := { row := treeNamesUptoRow, standIns := [], harness := (true, "2ec6ded0bfa57a7866907ed9f93c0f194938b805d3473889e8cc30a1a1d66482"), looks := true }, kinds := [], alts := [], laidByText := true, laidKinds := [.data, .data, .data, .sentinel, .sentinel], laidTests := true, laidLooks := .later }
def TreeNamesUptoCardSaid : Prop := Claim7.holds Tryz.pinned (.plain (OpenSpec.upto treeNamesSpec)) treeNamesUptoCard

/-- THE SECOND FORM's CARD OF 'carlinglaw03.TreeOps'. -/
def treeOpsUptoCard : Claim7 := { stood := { row := treeOpsUptoRow, standIns := [], harness := (true, "2ec6ded0bfa57a7866907ed9f93c0f194938b805d3473889e8cc30a1a1d66482"), looks := true }, kinds := [], alts := [], laidByText := true, laidKinds := [.data, .data, .data, .sentinel, .sentinel], laidTests := true, laidLooks := .later }
def TreeOpsUptoCardSaid : Prop := Claim7.holds Tryz.pinned (.plain (OpenSpec.upto treeOpsSpec)) treeOpsUptoCard

/-- THE SECOND FORM's CARD OF 'carlinglaw06.MeanRuns'. -/
def meanRunsUptoCard : Claim7 := { stood := { row := meanRunsUptoRow, standIns := [], harness := (true, "2ec6ded0bfa57a7866907ed9f93c0f194938b805d3473889e8cc30a1a1d66482"), looks := true }, kinds := [], alts := [], laidByText := true, laidKinds := [.data, .data, .data], laidTests := true, laidLooks := .later }
def MeanRunsUptoCardSaid : Prop := Claim7.holds Tryz.pinned (.plain (OpenSpec.upto meanRunsSpec)) meanRunsUptoCard

/-- THE SECOND FORM's CARD OF 'carlinglaw06.MeanOthers'. -/
def meanOthersUptoCard : Claim7 := { stood := { row := meanOthersUptoRow, standIns := [], harness := (true, "2ec6ded0bfa57a7866907ed9f93c0f194938b805d3473889e8cc30a1a1d66482"), looks := true }, kinds := [], alts := [], laidByText := true, laidKinds := [.data, .data, .data], laidTests := true, laidLooks := .later }
def MeanOthersUptoCardSaid : Prop := Claim7.holds Tryz.pinned (.plain (OpenSpec.upto meanOthersSpec)) meanOthersUptoCard

/-- THE SECOND FORM's CARD OF 'carlinglaw06.MeanOps'. -/
def meanOpsUptoCard : Claim7 := { stood := { row := meanOpsUptoRow, standIns := [], harness := (true, "2ec6ded0bfa57a7866907ed9f93c0f194938b805d3473889e8cc30a1a1d66482"), looks := true }, kinds := [], alts := [], laidByText := true, laidKinds := [.data, .data, .data], laidTests := true, laidLooks := .later }
def MeanOpsUptoCardSaid : Prop := Claim7.holds Tryz.pinned (.plain (OpenSpec.upto meanOpsSpec)) meanOpsUptoCard

/-- THE SECOND FORM's CARD OF 'carlinglaw06.MeanLoops'. -/
def meanLoopsUptoCard : Claim7 := { stood := { row := meanLoopsUptoRow, standIns := [], harness := (true, "2ec6ded0bfa57a7866907ed9f93c0f194938b805d3473889e8cc30a1a1d66482"), looks := true }, kinds := [], alts := [], laidByText := true, laidKinds := [.data, .data, .data], laidTests := true, laidLooks := .later }
def MeanLoopsUptoCardSaid : Prop := Claim7.holds Tryz.pinned (.plain (OpenSpec.upto meanLoopsSpec)) meanLoopsUptoCard

/-- THE SECOND FORM's CARD OF 'carlinglaw06.MeanCalls'. -/
def meanCallsUptoCard : Claim7 := { stood := { row := meanCallsUptoRow, standIns := [], harness := (true, "2ec6ded0bfa57a7866907ed9f93c0f194938b805d3473889e8cc30a1a1d66482"), looks := true }, kinds := [], alts := [], laidByText := true, laidKinds := [.data, .data, .data], laidTests := true, laidLooks := .later }
def MeanCallsUptoCardSaid : Prop := Claim7.holds Tryz.pinned (.plain (OpenSpec.upto meanCallsSpec)) meanCallsUptoCard

/-- THE SECOND FORM's CARD OF 'carlinglaw06.MeanGoes'. -/
def meanGoesUptoCard : Claim7 := { stood := { row := meanGoesUptoRow, standIns := [], harness := (true, "2ec6ded0bfa57a7866907ed9f93c0f194938b805d3473889e8cc30a1a1d66482"), looks := true }, kinds := [], alts := [], laidByText := true, laidKinds := [.data, .data, .data], laidTests := true, laidLooks := .later }
def MeanGoesUptoCardSaid : Prop := Claim7.holds Tryz.pinned (.plain (OpenSpec.upto meanGoesSpec)) meanGoesUptoCard
end Rows
end Go.Proofs.YtpagbhgnkbbdjaaGreatDoor
