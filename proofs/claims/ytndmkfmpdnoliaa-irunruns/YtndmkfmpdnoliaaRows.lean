/-
  No cell of these rows narrows 'for every input' (looked for: loops, veiled, ifaces, maps, wideKeys, modest, calm, conditions, laid).
  DERIVED. THE GIVEN ROWS OF THIS SEAT. 7 by the template 'for every input the law returns true; each argument reads behind the call as it read before'; 0 by the template 'total and deterministic' (their statements: YtndmkfmpdnoliaaTotals.lean).
  GIVEN WITH THE SEED: the statements are not yours to turn. If you find one false, say at which input.
  Laid BY PROGRAM, IN A SANDBOX (cutbox-rows.mjs): the forced cells as the released guide's own fill.sh prints them over the translation 08c43aba361a3d09… (all of the seat's roots in one cut). By AI agents, Wed Nov 11 2026. No macro, syntax, notation, axiom, sorry.
-/
import Derived.Test.YtndmkfmpdnoliaaChecked
import GoSem.Claim
import GoSem.ClaimJoined
import GoSem.ClaimMapViews
import Derived.JoinedTies
import Derived.KernelRfl
namespace Go.Proofs.Ytndmkfmpdnoliaa
/- THE CELL 'sum', in the pinned program and in every row, IS THE sha256 OF THE DUMP (.gsa) THAT YtndmkfmpdnoliaaProg.lean LOADS. Nothing in Lean hashes anything: it is a label: what it is worth is what the hold of that sum in a sandbox is worth. -/
noncomputable def Try.pinned : Pinned := { name := "ytndmkfmpdnoliaa", sum := "08c43aba361a3d097af680db2cb99f2f3dabe73b85159aeaa2b7f02573a73f16", checked := Try.checked }
namespace Rows
def none {H : Type} : Left H := { results := [], args := [] }

/-- 'carlinglaw07.IrunRuns': WHATEVER THE INPUT: true; the input reads as it did. -/
def irunRunsSpec : ChangeSpec := { name := "irunRuns", fn := fun _ => fun
  | [d1, d2, d3] => { results := [.lit (.bool true)], args := [d1, d2, d3] }
  | _ => none }
def irunRunsRow : OpenClaim := { program := "ytndmkfmpdnoliaa", sum := "08c43aba361a3d097af680db2cb99f2f3dabe73b85159aeaa2b7f02573a73f16", func := "carling/carlinglaw07.IrunRuns", spec := "irunRuns", inPlace := ["internal/bytealg.IndexByteString", "internal/bytealg.IndexString"], unfollowed := true, recurses := true, named := ["internal/bytealg.MaxLen"], apart := false }
def IrunRunsSaid : Prop := irunRunsRow.holds Try.pinned (OpenSpec.ofChange irunRunsSpec)

/-- ITS FALSE NEIGHBOUR: 'it returns false'. Refute it at one input. -/
def irunRunsWrong : ChangeSpec := { name := "irunRuns", fn := fun _ => fun
  | [d1, d2, d3] => { results := [.lit (.bool false)], args := [d1, d2, d3] }
  | _ => none }
def IrunRunsWrongFalsely : Prop := irunRunsRow.holds Try.pinned (OpenSpec.ofChange irunRunsWrong)

/-- 'carlinglaw10.DeadDrops': WHATEVER THE INPUT: true; the input reads as it did. -/
def deadDropsSpec : ChangeSpec := { name := "deadDrops", fn := fun _ => fun
  | [d] => { results := [.lit (.bool true)], args := [d] }
  | _ => none }
def deadDropsRow : OpenClaim := { program := "ytndmkfmpdnoliaa", sum := "08c43aba361a3d097af680db2cb99f2f3dabe73b85159aeaa2b7f02573a73f16", func := "carling/carlinglaw10.DeadDrops", spec := "deadDrops", inPlace := ["internal/bytealg.IndexByteString", "internal/bytealg.IndexString"], unfollowed := true, recurses := true, named := ["internal/bytealg.MaxLen"], apart := false }
def DeadDropsSaid : Prop := deadDropsRow.holds Try.pinned (OpenSpec.ofChange deadDropsSpec)

/-- ITS FALSE NEIGHBOUR: 'it returns false'. Refute it at one input. -/
def deadDropsWrong : ChangeSpec := { name := "deadDrops", fn := fun _ => fun
  | [d] => { results := [.lit (.bool false)], args := [d] }
  | _ => none }
def DeadDropsWrongFalsely : Prop := deadDropsRow.holds Try.pinned (OpenSpec.ofChange deadDropsWrong)

/-- 'carlinglaw10.DeadReads': WHATEVER THE INPUT: true; the input reads as it did. -/
def deadReadsSpec : ChangeSpec := { name := "deadReads", fn := fun _ => fun
  | [d1, d2] => { results := [.lit (.bool true)], args := [d1, d2] }
  | _ => none }
def deadReadsRow : OpenClaim := { program := "ytndmkfmpdnoliaa", sum := "08c43aba361a3d097af680db2cb99f2f3dabe73b85159aeaa2b7f02573a73f16", func := "carling/carlinglaw10.DeadReads", spec := "deadReads", inPlace := ["internal/bytealg.IndexByteString", "internal/bytealg.IndexString"], unfollowed := true, recurses := true, named := ["internal/bytealg.MaxLen"], apart := false }
def DeadReadsSaid : Prop := deadReadsRow.holds Try.pinned (OpenSpec.ofChange deadReadsSpec)

/-- ITS FALSE NEIGHBOUR: 'it returns false'. Refute it at one input. -/
def deadReadsWrong : ChangeSpec := { name := "deadReads", fn := fun _ => fun
  | [d1, d2] => { results := [.lit (.bool false)], args := [d1, d2] }
  | _ => none }
def DeadReadsWrongFalsely : Prop := deadReadsRow.holds Try.pinned (OpenSpec.ofChange deadReadsWrong)

/-- 'carlinglaw10.DeadRuns': WHATEVER THE INPUT: true; the input reads as it did. -/
def deadRunsSpec : ChangeSpec := { name := "deadRuns", fn := fun _ => fun
  | [d1, d2] => { results := [.lit (.bool true)], args := [d1, d2] }
  | _ => none }
def deadRunsRow : OpenClaim := { program := "ytndmkfmpdnoliaa", sum := "08c43aba361a3d097af680db2cb99f2f3dabe73b85159aeaa2b7f02573a73f16", func := "carling/carlinglaw10.DeadRuns", spec := "deadRuns", inPlace := ["internal/bytealg.IndexByteString", "internal/bytealg.IndexString"], unfollowed := true, recurses := true, named := ["internal/bytealg.MaxLen"], apart := false }
def DeadRunsSaid : Prop := deadRunsRow.holds Try.pinned (OpenSpec.ofChange deadRunsSpec)

/-- ITS FALSE NEIGHBOUR: 'it returns false'. Refute it at one input. -/
def deadRunsWrong : ChangeSpec := { name := "deadRuns", fn := fun _ => fun
  | [d1, d2] => { results := [.lit (.bool false)], args := [d1, d2] }
  | _ => none }
def DeadRunsWrongFalsely : Prop := deadRunsRow.holds Try.pinned (OpenSpec.ofChange deadRunsWrong)

/-- 'carlinglaw10.DeadAgain': WHATEVER THE INPUT: true; the input reads as it did. -/
def deadAgainSpec : ChangeSpec := { name := "deadAgain", fn := fun _ => fun
  | [d] => { results := [.lit (.bool true)], args := [d] }
  | _ => none }
def deadAgainRow : OpenClaim := { program := "ytndmkfmpdnoliaa", sum := "08c43aba361a3d097af680db2cb99f2f3dabe73b85159aeaa2b7f02573a73f16", func := "carling/carlinglaw10.DeadAgain", spec := "deadAgain", inPlace := ["internal/bytealg.IndexByteString", "internal/bytealg.IndexString"], unfollowed := true, recurses := true, named := ["internal/bytealg.MaxLen"], apart := false }
def DeadAgainSaid : Prop := deadAgainRow.holds Try.pinned (OpenSpec.ofChange deadAgainSpec)

/-- ITS FALSE NEIGHBOUR: 'it returns false'. Refute it at one input. -/
def deadAgainWrong : ChangeSpec := { name := "deadAgain", fn := fun _ => fun
  | [d] => { results := [.lit (.bool false)], args := [d] }
  | _ => none }
def DeadAgainWrongFalsely : Prop := deadAgainRow.holds Try.pinned (OpenSpec.ofChange deadAgainWrong)

/-- 'carlinglaw10.DeadFewer': WHATEVER THE INPUT: true; the input reads as it did. -/
def deadFewerSpec : ChangeSpec := { name := "deadFewer", fn := fun _ => fun
  | [d1, d2] => { results := [.lit (.bool true)], args := [d1, d2] }
  | _ => none }
def deadFewerRow : OpenClaim := { program := "ytndmkfmpdnoliaa", sum := "08c43aba361a3d097af680db2cb99f2f3dabe73b85159aeaa2b7f02573a73f16", func := "carling/carlinglaw10.DeadFewer", spec := "deadFewer", inPlace := ["internal/bytealg.IndexByteString", "internal/bytealg.IndexString"], unfollowed := true, recurses := true, named := ["internal/bytealg.MaxLen"], apart := false }
def DeadFewerSaid : Prop := deadFewerRow.holds Try.pinned (OpenSpec.ofChange deadFewerSpec)

/-- ITS FALSE NEIGHBOUR: 'it returns false'. Refute it at one input. -/
def deadFewerWrong : ChangeSpec := { name := "deadFewer", fn := fun _ => fun
  | [d1, d2] => { results := [.lit (.bool false)], args := [d1, d2] }
  | _ => none }
def DeadFewerWrongFalsely : Prop := deadFewerRow.holds Try.pinned (OpenSpec.ofChange deadFewerWrong)

/-- 'carlinglaw10.DeadChain': WHATEVER THE INPUT: true; the input reads as it did. -/
def deadChainSpec : ChangeSpec := { name := "deadChain", fn := fun _ => fun
  | [d1, d2] => { results := [.lit (.bool true)], args := [d1, d2] }
  | _ => none }
def deadChainRow : OpenClaim := { program := "ytndmkfmpdnoliaa", sum := "08c43aba361a3d097af680db2cb99f2f3dabe73b85159aeaa2b7f02573a73f16", func := "carling/carlinglaw10.DeadChain", spec := "deadChain", inPlace := ["internal/bytealg.IndexByteString", "internal/bytealg.IndexString"], unfollowed := true, recurses := true, named := ["internal/bytealg.MaxLen"], apart := false }
def DeadChainSaid : Prop := deadChainRow.holds Try.pinned (OpenSpec.ofChange deadChainSpec)

/-- ITS FALSE NEIGHBOUR: 'it returns false'. Refute it at one input. -/
def deadChainWrong : ChangeSpec := { name := "deadChain", fn := fun _ => fun
  | [d1, d2] => { results := [.lit (.bool false)], args := [d1, d2] }
  | _ => none }
def DeadChainWrongFalsely : Prop := deadChainRow.holds Try.pinned (OpenSpec.ofChange deadChainWrong)

/- THE SECOND FORM. 'bulk': how many values and letters a reading holds, each counted each time it is reached (what is shared counts as often as it is met; a slice's spare places count too). A statement '..UptoSaid' is the law's where the arguments, and the package variables that the reading takes, are together of bulk at most 1048576: NARROWER than '..Said'. Prove '..Said' where nothing that the law and all that it calls make is longer than what came in: it says more and counts as full. Else prove '..UptoSaid'. A law counts once. -/
mutual
def uptoBulk {H : Type} : DataW H → Nat
  | .lit (.string bytes) => bytes.length + 1
  | .lit _ => 1
  | .nil => 1
  | .ptr d => uptoBulk d + 1
  | .slice elems spare => uptoBulkAll elems + uptoBulkAll spare + 1
  | .agg parts => uptoBulkAll parts + 1
  | .iface _ d => uptoBulk d + 1
  | .map entries => uptoBulkEntries entries + 1
  | .held _ => 1
def uptoBulkAll {H : Type} : List (DataW H) → Nat
  | [] => 0
  | d :: r => uptoBulk d + uptoBulkAll r
def uptoBulkEntries {H : Type} : List (Lit × DataW H) → Nat
  | [] => 0
  | x :: r => uptoBulkEntry x + uptoBulkEntries r
def uptoBulkEntry {H : Type} : Lit × DataW H → Nat
  | (.string bytes, d) => bytes.length + uptoBulk d + 1
  | (_, d) => uptoBulk d + 1
 end
def uptoSmall : (H : Type) → List (DataW H) → Bool := fun _ ds => decide (uptoBulkAll ds ≤ 1048576)
def OpenSpec.upto (s : _root_.Go.ChangeSpec) : _root_.Go.OpenSpec := { _root_.Go.OpenSpec.ofChange s with cond := some uptoSmall }

/-- 'carlinglaw07.IrunRuns', WHERE WHAT IT READS IS OF BULK AT MOST 1048576: true; the input reads as it did. -/
def irunRunsUptoRow : OpenClaim := { program := "ytndmkfmpdnoliaa", sum := "08c43aba361a3d097af680db2cb99f2f3dabe73b85159aeaa2b7f02573a73f16", func := "carling/carlinglaw07.IrunRuns", spec := "irunRuns", inPlace := ["internal/bytealg.IndexByteString", "internal/bytealg.IndexString"], unfollowed := true, recurses := true, named := ["internal/bytealg.MaxLen"], apart := false, narrowed := true }
def IrunRunsUptoSaid : Prop := irunRunsUptoRow.holds Try.pinned (OpenSpec.upto irunRunsSpec)

/-- 'carlinglaw10.DeadDrops', WHERE WHAT IT READS IS OF BULK AT MOST 1048576: true; the input reads as it did. -/
def deadDropsUptoRow : OpenClaim := { program := "ytndmkfmpdnoliaa", sum := "08c43aba361a3d097af680db2cb99f2f3dabe73b85159aeaa2b7f02573a73f16", func := "carling/carlinglaw10.DeadDrops", spec := "deadDrops", inPlace := ["internal/bytealg.IndexByteString", "internal/bytealg.IndexString"], unfollowed := true, recurses := true, named := ["internal/bytealg.MaxLen"], apart := false, narrowed := true }
def DeadDropsUptoSaid : Prop := deadDropsUptoRow.holds Try.pinned (OpenSpec.upto deadDropsSpec)

/-- 'carlinglaw10.DeadReads', WHERE WHAT IT READS IS OF BULK AT MOST 1048576: true; the input reads as it did. -/
def deadReadsUptoRow : OpenClaim := { program := "ytndmkfmpdnoliaa", sum := "08c43aba361a3d097af680db2cb99f2f3dabe73b85159aeaa2b7f02573a73f16", func := "carling/carlinglaw10.DeadReads", spec := "deadReads", inPlace := ["internal/bytealg.IndexByteString", "internal/bytealg.IndexString"], unfollowed := true, recurses := true, named := ["internal/bytealg.MaxLen"], apart := false, narrowed := true }
def DeadReadsUptoSaid : Prop := deadReadsUptoRow.holds Try.pinned (OpenSpec.upto deadReadsSpec)

/-- 'carlinglaw10.DeadRuns', WHERE WHAT IT READS IS OF BULK AT MOST 1048576: true; the input reads as it did. -/
def deadRunsUptoRow : OpenClaim := { program := "ytndmkfmpdnoliaa", sum := "08c43aba361a3d097af680db2cb99f2f3dabe73b85159aeaa2b7f02573a73f16", func := "carling/carlinglaw10.DeadRuns", spec := "deadRuns", inPlace := ["internal/bytealg.IndexByteString", "internal/bytealg.IndexString"], unfollowed := true, recurses := true, named := ["internal/bytealg.MaxLen"], apart := false, narrowed := true }
def DeadRunsUptoSaid : Prop := deadRunsUptoRow.holds Try.pinned (OpenSpec.upto deadRunsSpec)

/-- 'carlinglaw10.DeadAgain', WHERE WHAT IT READS IS OF BULK AT MOST 1048576: true; the input reads as it did. -/
def deadAgainUptoRow : OpenClaim := { program := "ytndmkfmpdnoliaa", sum := "08c43aba361a3d097af680db2cb99f2f3dabe73b85159aeaa2b7f02573a73f16", func := "carling/carlinglaw10.DeadAgain", spec := "deadAgain", inPlace := ["internal/bytealg.IndexByteString", "internal/bytealg.IndexString"], unfollowed := true, recurses := true, named := ["internal/bytealg.MaxLen"], apart := false, narrowed := true }
def DeadAgainUptoSaid : Prop := deadAgainUptoRow.holds Try.pinned (OpenSpec.upto deadAgainSpec)

/-- 'carlinglaw10.DeadFewer', WHERE WHAT IT READS IS OF BULK AT MOST 1048576: true; the input reads as it did. -/
def deadFewerUptoRow : OpenClaim := { program := "ytndmkfmpdnoliaa", sum := "08c43aba361a3d097af680db2cb99f2f3dabe73b85159aeaa2b7f02573a73f16", func := "carling/carlinglaw10.DeadFewer", spec := "deadFewer", inPlace := ["internal/bytealg.IndexByteString", "internal/bytealg.IndexString"], unfollowed := true, recurses := true, named := ["internal/bytealg.MaxLen"], apart := false, narrowed := true }
def DeadFewerUptoSaid : Prop := deadFewerUptoRow.holds Try.pinned (OpenSpec.upto deadFewerSpec)

/-- 'carlinglaw10.DeadChain', WHERE WHAT IT READS IS OF BULK AT MOST 1048576: true; the input reads as it did. -/
def deadChainUptoRow : OpenClaim := { program := "ytndmkfmpdnoliaa", sum := "08c43aba361a3d097af680db2cb99f2f3dabe73b85159aeaa2b7f02573a73f16", func := "carling/carlinglaw10.DeadChain", spec := "deadChain", inPlace := ["internal/bytealg.IndexByteString", "internal/bytealg.IndexString"], unfollowed := true, recurses := true, named := ["internal/bytealg.MaxLen"], apart := false, narrowed := true }
def DeadChainUptoSaid : Prop := deadChainUptoRow.holds Try.pinned (OpenSpec.upto deadChainSpec)

end Rows
end Go.Proofs.Ytndmkfmpdnoliaa
