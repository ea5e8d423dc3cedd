/- ROWS OF BOOLS, and instructions in blocks of their own. -/
import Derived.Test.YtkbanngbchhgaaaIOk
import Derived.Test.YtkbanngbchhgaaaIApp
import Derived.Test.YtkbanngbchhgaaaIParts
import Derived.Deep.OwnRows
import Derived.Maps.OwnSet
import Derived.Maps.OwnOps
import Derived.Lib.Hide
import Derived.Deep.CutBlock
namespace Go.Proofs.Ytkbanngbchhgaaa
open Go.ChangeShapes Go.WideShapes Go.ChangeAt Go.RowKit Go.Maps
open Go.WideMaps

def bvs (l : List Bool) : Array Value := (l.map Value.bool).toArray
theorem bvs_set (l : List Bool) (k : Nat) (b : Bool) : (bvs l).setIfInBounds k (.bool b) = bvs (l.set k b) := by simp [bvs]
theorem brow_cell {w : World} {b : Nat} {l : List Bool} {t : TypeId} (h : w.heap[b]? = some (.cells (bvs l) t)) {k : Nat} (hk : k < l.length) : w.cell? ⟨b, k, none⟩ = some (.bool l[k]) := by
  simp [World.cell?, h, hk, bvs]
theorem brow_free {w : World} {b : Nat} {cs : Array Value} {t : TypeId} (h : w.heap[b]? = some (.cells cs t)) (k : Nat) : w.frozen? ⟨b, k, none⟩ = false := by
  simp [World.frozen?, h]
theorem brow_set {w : World} {b : Nat} {l : List Bool} {t : TypeId} (h : w.heap[b]? = some (.cells (bvs l) t)) (k : Nat) : (w.setCell ⟨b, k, none⟩ (.bool true)).heap[b]? = some (.cells (bvs (l.set k true)) t) := by
  rw [setCell_at h, bvs_set]
theorem made_bools (n : Nat) : madeCells #[.bool false] n = bvs (List.replicate n false) := by
  apply Array.ext
  · simp [madeCells, bvs]
  · intro i h1 h2
    simp [madeCells, bvs, Nat.mod_one]
theorem bool_info : (Try.prog.info? 4).map (fun i => (i.zero, i.size, i.bytes)) = some (some (.bool false), 1, 1) := by kernel_rfl

/-- The block of an instruction. -/
abbrev irB (x : Ir) (a : Option Addr) (c : Nat) : Obj := .cells #[.int .i64 x.kind, .int .i64 x.op, .int .i64 x.d, .int .i64 x.a, .int .i64 x.b, .int .i64 x.c, .int .u32 (x.n : Int), .string (bs x.name), .slice a x.args.length c] 43
theorem irB_at {w : World} {b : Nat} {x : Ir} {a : Option Addr} {c : Nat} (h : w.heap[b]? = some (irB x a c)) : IrAt w b 0 x a c := by
  constructor <;> simp [World.cell?, h]

theorem kint_law : Keyed Try.prog 3 := int_keyed Try.underlying3
theorem kint_key (n : Int) (h1 : -9223372036854775808 ≤ n) (h2 : n ≤ 9223372036854775807) : keyOf Try.prog 3 (.int .i64 n) = some (.int .i64 n) := keyOf_int_mk Try.underlying3 (WalkArith.wf_i64 ⟨h1, h2⟩)
theorem lit_inj {q : IntKind} {a b : Int} (h : (DataW.lit (.int q a) : DataW Unit) = .lit (.int q b)) : a = b := by injection h with h; injection h
theorem lit_ne {r d : Int} (h : r ≠ d) : (Lit.int .i64 r) ≠ .int .i64 d := fun e => h (by injection e)
end Go.Proofs.Ytkbanngbchhgaaa
