/-
  No cell of these rows narrows 'for every input' (looked for: loops, veiled, ifaces, maps, wideKeys, modest, calm, conditions, laid).
  DERIVED. THE GIVEN ROWS OF THIS SEAT. 7 by the template 'for every input the law returns true; each argument reads behind the call as it read before'; 0 by the template 'total and deterministic' (their statements: YtmglmbeconndhaaTotals.lean).
  GIVEN WITH THE SEED: the statements are not yours to turn. If you find one false, say at which input.
  Laid BY PROGRAM, IN A SANDBOX (cutbox-rows.mjs): the forced cells as the released guide's own fill.sh prints them over the translation 2f84f944f1182308… (all of the seat's roots in one cut). By AI agents, Wed Nov 11 2026. No macro, syntax, notation, axiom, sorry.
-/
import Derived.Test.YtmglmbeconndhaaChecked
import GoSem.Claim
import GoSem.ClaimJoined
import GoSem.ClaimMapViews
import Derived.JoinedTies
import Derived.KernelRfl
namespace Go.Proofs.Ytmglmbeconndhaa
/- THE CELL 'sum', in the pinned program and in every row, IS THE sha256 OF THE DUMP (.gsa) THAT YtmglmbeconndhaaProg.lean LOADS. Nothing in Lean hashes anything: it is a label: what it is worth is what the hold of that sum in a sandbox is worth. -/
noncomputable def Try.pinned : Pinned := { name := "ytmglmbeconndhaa", sum := "2f84f944f1182308d194a0b6004bb87def4a0085f042673daa12ed019162f007", checked := Try.checked }
namespace Rows
def none {H : Type} : Left H := { results := [], args := [] }

/-- 'carlinglaw07.IrunRights': WHATEVER THE INPUT: true; the input reads as it did. -/
def irunRightsSpec : ChangeSpec := { name := "irunRights", fn := fun _ => fun
  | [d] => { results := [.lit (.bool true)], args := [d] }
  | _ => none }
def irunRightsRow : OpenClaim := { program := "ytmglmbeconndhaa", sum := "2f84f944f1182308d194a0b6004bb87def4a0085f042673daa12ed019162f007", func := "carling/carlinglaw07.IrunRights", spec := "irunRights", inPlace := ["internal/bytealg.IndexByteString", "internal/bytealg.IndexString"], unfollowed := true, recurses := true, named := ["internal/bytealg.MaxLen"], apart := false }
def IrunRightsSaid : Prop := irunRightsRow.holds Try.pinned (OpenSpec.ofChange irunRightsSpec)

/-- ITS FALSE NEIGHBOUR: 'it returns false'. Refute it at one input. -/
def irunRightsWrong : ChangeSpec := { name := "irunRights", fn := fun _ => fun
  | [d] => { results := [.lit (.bool false)], args := [d] }
  | _ => none }
def IrunRightsWrongFalsely : Prop := irunRightsRow.holds Try.pinned (OpenSpec.ofChange irunRightsWrong)

/-- 'carlinglaw07.IrunRuns': WHATEVER THE INPUT: true; the input reads as it did. -/
def irunRunsSpec : ChangeSpec := { name := "irunRuns", fn := fun _ => fun
  | [d1, d2, d3] => { results := [.lit (.bool true)], args := [d1, d2, d3] }
  | _ => none }
def irunRunsRow : OpenClaim := { program := "ytmglmbeconndhaa", sum := "2f84f944f1182308d194a0b6004bb87def4a0085f042673daa12ed019162f007", func := "carling/carlinglaw07.IrunRuns", spec := "irunRuns", inPlace := ["internal/bytealg.IndexByteString", "internal/bytealg.IndexString"], unfollowed := true, recurses := true, named := ["internal/bytealg.MaxLen"], apart := false }
def IrunRunsSaid : Prop := irunRunsRow.holds Try.pinned (OpenSpec.ofChange irunRunsSpec)

/-- ITS FALSE NEIGHBOUR: 'it returns false'. Refute it at one input. -/
def irunRunsWrong : ChangeSpec := { name := "irunRuns", fn := fun _ => fun
  | [d1, d2, d3] => { results := [.lit (.bool false)], args := [d1, d2, d3] }
  | _ => none }
def IrunRunsWrongFalsely : Prop := irunRunsRow.holds Try.pinned (OpenSpec.ofChange irunRunsWrong)

/-- 'carlinglaw07.IrunMore': WHATEVER THE INPUT: true; the input reads as it did. -/
def irunMoreSpec : ChangeSpec := { name := "irunMore", fn := fun _ => fun
  | [d1, d2] => { results := [.lit (.bool true)], args := [d1, d2] }
  | _ => none }
def irunMoreRow : OpenClaim := { program := "ytmglmbeconndhaa", sum := "2f84f944f1182308d194a0b6004bb87def4a0085f042673daa12ed019162f007", func := "carling/carlinglaw07.IrunMore", spec := "irunMore", inPlace := ["internal/bytealg.IndexByteString", "internal/bytealg.IndexString"], unfollowed := true, recurses := true, named := ["internal/bytealg.MaxLen"], apart := false }
def IrunMoreSaid : Prop := irunMoreRow.holds Try.pinned (OpenSpec.ofChange irunMoreSpec)

/-- ITS FALSE NEIGHBOUR: 'it returns false'. Refute it at one input. -/
def irunMoreWrong : ChangeSpec := { name := "irunMore", fn := fun _ => fun
  | [d1, d2] => { results := [.lit (.bool false)], args := [d1, d2] }
  | _ => none }
def IrunMoreWrongFalsely : Prop := irunMoreRow.holds Try.pinned (OpenSpec.ofChange irunMoreWrong)

/-- 'carlinglaw07.IrunOthers': WHATEVER THE INPUT: true; the input reads as it did. -/
def irunOthersSpec : ChangeSpec := { name := "irunOthers", fn := fun _ => fun
  | [d1, d2] => { results := [.lit (.bool true)], args := [d1, d2] }
  | _ => none }
def irunOthersRow : OpenClaim := { program := "ytmglmbeconndhaa", sum := "2f84f944f1182308d194a0b6004bb87def4a0085f042673daa12ed019162f007", func := "carling/carlinglaw07.IrunOthers", spec := "irunOthers", inPlace := ["internal/bytealg.IndexByteString", "internal/bytealg.IndexString"], unfollowed := true, recurses := true, named := ["internal/bytealg.MaxLen"], apart := false }
def IrunOthersSaid : Prop := irunOthersRow.holds Try.pinned (OpenSpec.ofChange irunOthersSpec)

/-- ITS FALSE NEIGHBOUR: 'it returns false'. Refute it at one input. -/
def irunOthersWrong : ChangeSpec := { name := "irunOthers", fn := fun _ => fun
  | [d1, d2] => { results := [.lit (.bool false)], args := [d1, d2] }
  | _ => none }
def IrunOthersWrongFalsely : Prop := irunOthersRow.holds Try.pinned (OpenSpec.ofChange irunOthersWrong)

/-- 'carlinglaw07.IrunBranch': WHATEVER THE INPUT: true; the input reads as it did. -/
def irunBranchSpec : ChangeSpec := { name := "irunBranch", fn := fun _ => fun
  | [d1, d2, d3] => { results := [.lit (.bool true)], args := [d1, d2, d3] }
  | _ => none }
def irunBranchRow : OpenClaim := { program := "ytmglmbeconndhaa", sum := "2f84f944f1182308d194a0b6004bb87def4a0085f042673daa12ed019162f007", func := "carling/carlinglaw07.IrunBranch", spec := "irunBranch", inPlace := ["internal/bytealg.IndexByteString", "internal/bytealg.IndexString"], unfollowed := true, recurses := true, named := ["internal/bytealg.MaxLen"], apart := false }
def IrunBranchSaid : Prop := irunBranchRow.holds Try.pinned (OpenSpec.ofChange irunBranchSpec)

/-- ITS FALSE NEIGHBOUR: 'it returns false'. Refute it at one input. -/
def irunBranchWrong : ChangeSpec := { name := "irunBranch", fn := fun _ => fun
  | [d1, d2, d3] => { results := [.lit (.bool false)], args := [d1, d2, d3] }
  | _ => none }
def IrunBranchWrongFalsely : Prop := irunBranchRow.holds Try.pinned (OpenSpec.ofChange irunBranchWrong)

/-- 'carlinglaw07.IrunCells': WHATEVER THE INPUT: true; the input reads as it did. -/
def irunCellsSpec : ChangeSpec := { name := "irunCells", fn := fun _ => fun
  | [d1, d2, d3] => { results := [.lit (.bool true)], args := [d1, d2, d3] }
  | _ => none }
def irunCellsRow : OpenClaim := { program := "ytmglmbeconndhaa", sum := "2f84f944f1182308d194a0b6004bb87def4a0085f042673daa12ed019162f007", func := "carling/carlinglaw07.IrunCells", spec := "irunCells", inPlace := ["internal/bytealg.IndexByteString", "internal/bytealg.IndexString"], unfollowed := true, recurses := true, named := ["internal/bytealg.MaxLen"], apart := false }
def IrunCellsSaid : Prop := irunCellsRow.holds Try.pinned (OpenSpec.ofChange irunCellsSpec)

/-- ITS FALSE NEIGHBOUR: 'it returns false'. Refute it at one input. -/
def irunCellsWrong : ChangeSpec := { name := "irunCells", fn := fun _ => fun
  | [d1, d2, d3] => { results := [.lit (.bool false)], args := [d1, d2, d3] }
  | _ => none }
def IrunCellsWrongFalsely : Prop := irunCellsRow.holds Try.pinned (OpenSpec.ofChange irunCellsWrong)

/-- 'carlinglaw07.IrunDeep': WHATEVER THE INPUT: true; the input reads as it did. -/
def irunDeepSpec : ChangeSpec := { name := "irunDeep", fn := fun _ => fun
  | [d1, d2] => { results := [.lit (.bool true)], args := [d1, d2] }
  | _ => none }
def irunDeepRow : OpenClaim := { program := "ytmglmbeconndhaa", sum := "2f84f944f1182308d194a0b6004bb87def4a0085f042673daa12ed019162f007", func := "carling/carlinglaw07.IrunDeep", spec := "irunDeep", inPlace := ["internal/bytealg.IndexByteString", "internal/bytealg.IndexString"], unfollowed := true, recurses := true, named := ["internal/bytealg.MaxLen"], apart := false }
def IrunDeepSaid : Prop := irunDeepRow.holds Try.pinned (OpenSpec.ofChange irunDeepSpec)

/-- ITS FALSE NEIGHBOUR: 'it returns false'. Refute it at one input. -/
def irunDeepWrong : ChangeSpec := { name := "irunDeep", fn := fun _ => fun
  | [d1, d2] => { results := [.lit (.bool false)], args := [d1, d2] }
  | _ => none }
def IrunDeepWrongFalsely : Prop := irunDeepRow.holds Try.pinned (OpenSpec.ofChange irunDeepWrong)

/- THE SECOND FORM. 'bulk': how many values and letters a reading holds, each counted each time it is reached (what is shared counts as often as it is met; a slice's spare places count too). A statement '..UptoSaid' is the law's where the arguments, and the package variables that the reading takes, are together of bulk at most 1048576: NARROWER than '..Said'. Prove '..Said' where nothing that the law and all that it calls make is longer than what came in: it says more and counts as full. Else prove '..UptoSaid'. A law counts once. -/
mutual
def uptoBulk {H : Type} : DataW H → Nat
  | .lit (.string bytes) => bytes.length + 1
  | .lit _ => 1
  | .nil => 1
  | .ptr d => uptoBulk d + 1
  | .slice elems spare => uptoBulkAll elems + uptoBulkAll spare + 1
  | .agg parts => uptoBulkAll parts + 1
  | .iface _ d => uptoBulk d + 1
  | .map entries => uptoBulkEntries entries + 1
  | .held _ => 1
def uptoBulkAll {H : Type} : List (DataW H) → Nat
  | [] => 0
  | d :: r => uptoBulk d + uptoBulkAll r
def uptoBulkEntries {H : Type} : List (Lit × DataW H) → Nat
  | [] => 0
  | x :: r => uptoBulkEntry x + uptoBulkEntries r
def uptoBulkEntry {H : Type} : Lit × DataW H → Nat
  | (.string bytes, d) => bytes.length + uptoBulk d + 1
  | (_, d) => uptoBulk d + 1
 end
def uptoSmall : (H : Type) → List (DataW H) → Bool := fun _ ds => decide (uptoBulkAll ds ≤ 1048576)
def OpenSpec.upto (s : _root_.Go.ChangeSpec) : _root_.Go.OpenSpec := { _root_.Go.OpenSpec.ofChange s with cond := some uptoSmall }

/-- 'carlinglaw07.IrunRights', WHERE WHAT IT READS IS OF BULK AT MOST 1048576: true; the input reads as it did. -/
def irunRightsUptoRow : OpenClaim := { program := "ytmglmbeconndhaa", sum := "2f84f944f1182308d194a0b6004bb87def4a0085f042673daa12ed019162f007", func := "carling/carlinglaw07.IrunRights", spec := "irunRights", inPlace := ["internal/bytealg.IndexByteString", "internal/bytealg.IndexString"], unfollowed := true, recurses := true, named := ["internal/bytealg.MaxLen"], apart := false, narrowed := true }
def IrunRightsUptoSaid : Prop := irunRightsUptoRow.holds Try.pinned (OpenSpec.upto irunRightsSpec)

/-- 'carlinglaw07.IrunRuns', WHERE WHAT IT READS IS OF BULK AT MOST 1048576: true; the input reads as it did. -/
def irunRunsUptoRow : OpenClaim := { program := "ytmglmbeconndhaa", sum := "2f84f944f1182308d194a0b6004bb87def4a0085f042673daa12ed019162f007", func := "carling/carlinglaw07.IrunRuns", spec := "irunRuns", inPlace := ["internal/bytealg.IndexByteString", "internal/bytealg.IndexString"], unfollowed := true, recurses := true, named := ["internal/bytealg.MaxLen"], apart := false, narrowed := true }
def IrunRunsUptoSaid : Prop := irunRunsUptoRow.holds Try.pinned (OpenSpec.upto irunRunsSpec)

/-- 'carlinglaw07.IrunMore', WHERE WHAT IT READS IS OF BULK AT MOST 1048576: true; the input reads as it did. -/
def irunMoreUptoRow : OpenClaim := { program := "ytmglmbeconndhaa", sum := "2f84f944f1182308d194a0b6004bb87def4a0085f042673daa12ed019162f007", func := "carling/carlinglaw07.IrunMore", spec := "irunMore", inPlace := ["internal/bytealg.IndexByteString", "internal/bytealg.IndexString"], unfollowed := true, recurses := true, named := ["internal/bytealg.MaxLen"], apart := false, narrowed := true }
def IrunMoreUptoSaid : Prop := irunMoreUptoRow.holds Try.pinned (OpenSpec.upto irunMoreSpec)

/-- 'carlinglaw07.IrunOthers', WHERE WHAT IT READS IS OF BULK AT MOST 1048576: true; the input reads as it did. -/
def irunOthersUptoRow : OpenClaim := { program := "ytmglmbeconndhaa", sum := "2f84f944f1182308d194a0b6004bb87def4a0085f042673daa12ed019162f007", func := "carling/carlinglaw07.IrunOthers", spec := "irunOthers", inPlace := ["internal/bytealg.IndexByteString", "internal/bytealg.IndexString"], unfollowed := true, recurses := true, named := ["internal/bytealg.MaxLen"], apart := false, narrowed := true }
def IrunOthersUptoSaid : Prop := irunOthersUptoRow.holds Try.pinned (OpenSpec.upto irunOthersSpec)

/-- 'carlinglaw07.IrunBranch', WHERE WHAT IT READS IS OF BULK AT MOST 1048576: true; the input reads as it did. -/
def irunBranchUptoRow : OpenClaim := { program := "ytmglmbeconndhaa", sum := "2f84f944f1182308d194a0b6004bb87def4a0085f042673daa12ed019162f007", func := "carling/carlinglaw07.IrunBranch", spec := "irunBranch", inPlace := ["internal/bytealg.IndexByteString", "internal/bytealg.IndexString"], unfollowed := true, recurses := true, named := ["internal/bytealg.MaxLen"], apart := false, narrowed := true }
def IrunBranchUptoSaid : Prop := irunBranchUptoRow.holds Try.pinned (OpenSpec.upto irunBranchSpec)

/-- 'carlinglaw07.IrunCells', WHERE WHAT IT READS IS OF BULK AT MOST 1048576: true; the input reads as it did. -/
def irunCellsUptoRow : OpenClaim := { program := "ytmglmbeconndhaa", sum := "2f84f944f1182308d194a0b6004bb87def4a0085f042673daa12ed019162f007", func := "carling/carlinglaw07.IrunCells", spec := "irunCells", inPlace := ["internal/bytealg.IndexByteString", "internal/bytealg.IndexString"], unfollowed := true, recurses := true, named := ["internal/bytealg.MaxLen"], apart := false, narrowed := true }
def IrunCellsUptoSaid : Prop := irunCellsUptoRow.holds Try.pinned (OpenSpec.upto irunCellsSpec)

/-- 'carlinglaw07.IrunDeep', WHERE WHAT IT READS IS OF BULK AT MOST 1048576: true; the input reads as it did. -/
def irunDeepUptoRow : OpenClaim := { program := "ytmglmbeconndhaa", sum := "2f84f944f1182308d194a0b6004bb87def4a0085f042673daa12ed019162f007", func := "carling/carlinglaw07.IrunDeep", spec := "irunDeep", inPlace := ["internal/bytealg.IndexByteString", "internal/bytealg.IndexString"], unfollowed := true, recurses := true, named := ["internal/bytealg.MaxLen"], apart := false, narrowed := true }
def IrunDeepUptoSaid : Prop := irunDeepUptoRow.holds Try.pinned (OpenSpec.upto irunDeepSpec)

end Rows
end Go.Proofs.Ytmglmbeconndhaa
