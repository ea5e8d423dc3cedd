/- WHERE BLOCKS BEGIN, in memory; what is known, in memory (a map of registers' words). -/
import Derived.Test.YtclajapdbphlbaaGMath
import Derived.Test.YtclajapdbphlbaaIApp
import Derived.Test.YtclajapdbphlbaaIParts
import Derived.Deep.OwnRows
import Derived.Maps.OwnSet
import Derived.Maps.OwnOps
import Derived.Lib.Hide
import Derived.Deep.CutBlock
namespace Go.Proofs.Ytclajapdbphlbaa
open Go.ChangeShapes Go.WideShapes Go.ChangeAt Go.RowKit Go.Maps
open Go.WideMaps

def bvs (l : List Bool) : Array Value := (l.map Value.bool).toArray
theorem bvs_set (l : List Bool) (k : Nat) (b : Bool) : (bvs l).setIfInBounds k (.bool b) = bvs (l.set k b) := by simp [bvs]
theorem brow_cell {w : World} {b : Nat} {l : List Bool} {t : TypeId} (h : w.heap[b]? = some (.cells (bvs l) t)) {k : Nat} (hk : k < l.length) : w.cell? ⟨b, k, none⟩ = some (.bool l[k]) := by
  simp [World.cell?, h, hk, bvs]
theorem brow_free {w : World} {b : Nat} {cs : Array Value} {t : TypeId} (h : w.heap[b]? = some (.cells cs t)) (k : Nat) : w.frozen? ⟨b, k, none⟩ = false := by
  simp [World.frozen?, h]
theorem brow_set {w : World} {b : Nat} {l : List Bool} {t : TypeId} (h : w.heap[b]? = some (.cells (bvs l) t)) (k : Nat) : (w.setCell ⟨b, k, none⟩ (.bool true)).heap[b]? = some (.cells (bvs (l.set k true)) t) := by
  rw [setCell_at h, bvs_set]
theorem made_bools (n : Nat) : madeCells #[.bool false] n = bvs (List.replicate n false) := by
  apply Array.ext
  · simp [madeCells, bvs]
  · intro i h1 h2
    simp [madeCells, bvs, Nat.mod_one]
theorem bool_info : (Try.prog.info? 4).map (fun i => (i.zero, i.size, i.bytes)) = some (some (.bool false), 1, 1) := by kernel_rfl

/-- The block of an instruction. -/
abbrev irB (x : Ir) (a : Option Addr) (c : Nat) : Obj := .cells #[.int .i64 x.kind, .int .i64 x.op, .int .i64 x.d, .int .i64 x.a, .int .i64 x.b, .int .i64 x.c, .int .u32 (x.n : Int), .string (bs x.name), .slice a x.args.length c] 36
theorem irB_at {w : World} {b : Nat} {x : Ir} {a : Option Addr} {c : Nat} (h : w.heap[b]? = some (irB x a c)) : IrAt w b 0 x a c := by
  constructor <;> simp [World.cell?, h]

/-- WHAT IS KNOWN, in the map's block. -/
def Kno (w : World) (b n : Nat) (K : Kws) : Prop := ∃ D : DataW Unit, w.ownsMap Try.prog 3 (plainElem Try.prog 33) b n D ∧ ∀ r : Int, Maps.has D (.int .i64 r) = (K r).isSome ∧ D.atKey (.int .i64 r) (.lit (.int .u32 0)) = .lit (.int .u32 (((K r).getD 0 : Nat) : Int))
theorem kint_law : Keyed Try.prog 3 := int_keyed Try.underlying3
theorem kint_key (n : Int) (h1 : -9223372036854775808 ≤ n) (h2 : n ≤ 9223372036854775807) : keyOf Try.prog 3 (.int .i64 n) = some (.int .i64 n) := keyOf_int_mk Try.underlying3 (WalkArith.wf_i64 ⟨h1, h2⟩)
theorem zero_u32 (w : World) : (zeroValue 33).run Try.prog w = .ok (.int .u32 0) w := by kernel_rfl
theorem Kno.made (w : World) : Kno (w.alloc (.map #[] 0)) w.heap.size 0 kNone :=
  ⟨.map [], World.ownsMap_made w Try.prog 3 _, fun r => ⟨by simp [kNone, has_eq], by rw [WideAt.atKey_none _ (by simp)]; rfl⟩⟩
theorem Kno.lt {w : World} {b n : Nat} {K : Kws} (h : Kno w b n K) : b < w.heap.size := by obtain ⟨D, hD, _⟩ := h; exact hD.lt
theorem Kno.keep {w w' : World} {b n : Nat} {K : Kws} (h : Kno w b n K) (hb : w'.heap[b]? = w.heap[b]?) : Kno w' b n K := by
  obtain ⟨D, ⟨es, clock, h1, r⟩, h2⟩ := h
  exact ⟨D, ⟨es, clock, hb.trans h1, r⟩, h2⟩
theorem lit_inj {q : IntKind} {a b : Int} (h : (DataW.lit (.int q a) : DataW Unit) = .lit (.int q b)) : a = b := by injection h with h; injection h
/-- Looked into. -/
theorem Kno.look {w : World} {b n : Nat} {K : Kws} (h : Kno w b n K) {r : Int} (h1 : 0 ≤ r) (h2 : r ≤ 100000) :
    (Instr.lookup 86 (.map (some b)) (.int .i64 r) false).run Try.prog w = .ok (.int .u32 (((K r).getD 0 : Nat) : Int)) w := by
  obtain ⟨D, hD, hr⟩ := h
  obtain ⟨c, hrun, hat, _⟩ := hD.lookup_int kint_law Try.underlying86 Try.underlying33 (zero_u32 w) (kint_key r (by omega) (by omega))
  rw [(hr r).2] at hat
  rw [hrun, ← lit_inj hat]
theorem Kno.look2 {w : World} {b n : Nat} {K : Kws} (h : Kno w b n K) {r : Int} (h1 : 0 ≤ r) (h2 : r ≤ 100000) :
    (Instr.lookup 86 (.map (some b)) (.int .i64 r) true).run Try.prog w = .ok (.tuple #[.int .u32 (((K r).getD 0 : Nat) : Int), .bool (K r).isSome]) w := by
  obtain ⟨D, hD, hr⟩ := h
  obtain ⟨v, ps, hrun, hv⟩ := hD.look_ok kint_law Try.underlying86 (zero_u32 w) (zd := .lit (.int .u32 0)) (zp := []) (plainElem_int Try.underlying33 (by decide)) (kint_key r (by omega) (by omega))
  obtain ⟨c, rfl, hc, _⟩ := plainElem_int_inv Try.underlying33 hv
  have hat := congrArg Prod.fst hc
  simp only at hat
  rw [(hr r).2] at hat
  rw [hrun, ← lit_inj hat, (hr r).1]
theorem lit_ne {r d : Int} (h : r ≠ d) : (Lit.int .i64 r) ≠ .int .i64 d := fun e => h (by injection e)
/-- Put into. -/
theorem Kno.put {w : World} {b n : Nat} {K : Kws} (h : Kno w b n K) (hn : n ≤ 1000000) {d : Int} (h1 : 0 ≤ d) (h2 : d ≤ 100000) {v : Nat} (hv : v < 4294967296) :
    ∃ w', (Instr.mapUpdate 86 (.map (some b)) (.int .i64 d) (.int .u32 (v : Int))).run Try.prog w = .ok () w' ∧ Kno w' b (n + 1) (kPut K d (some v)) ∧ Kept (fun k => k = b) w w' ∧ w'.heap.size = w.heap.size := by
  obtain ⟨D, hD, hr⟩ := h
  obtain ⟨w', hrun, hD', hg⟩ := hD.store kint_law Try.underlying86 (by unfold maxLen; omega) (kint_key d (by omega) (by omega)) (plainElem_int (H := Unit) Try.underlying33 (a := (v : Int)) (WalkArith.wf_u32 (by omega)))
  refine ⟨w', hrun, ⟨_, hD', fun r => ?_⟩, (Kept.of_grown hg.grown).mono fun k _ e => (Option.some.inj e).symm, ?_⟩
  · by_cases e : r = d
    · subst e
      have hkl : WideAt.IsKeyLit (Lit.int .i64 r) := kint_law.one.key ⟨_, kint_key r (by omega) (by omega)⟩
      rw [has_put_same hD.isMap hkl, atKey_put_same hD.isMap hkl]
      simp [kPut]
    · rw [has_put_other (lit_ne e), atKey_put_other (lit_ne e), (hr r).1, (hr r).2]
      simp [kPut, e]
  · obtain ⟨es, clock, es', clock', _, rfl⟩ := hg
    simp [ChangeMaps.setBlock]
/-- Left out. -/
theorem Kno.drop {w : World} {b n : Nat} {K : Kws} (h : Kno w b n K) {d : Int} (h1 : 0 ≤ d) (h2 : d ≤ 100000) (ty : TypeId) :
    ∃ w', (Builtin.delete_ #[86, 3] ty #[.map (some b), .int .i64 d]).run Try.prog w = .ok (.tuple #[]) w' ∧ Kno w' b n (kPut K d none) ∧ Kept (fun k => k = b) w w' ∧ w'.heap.size = w.heap.size := by
  obtain ⟨D, hD, hr⟩ := h
  obtain ⟨w', hrun, hD', hg⟩ := hD.drop kint_law Try.underlying86 (kint_key d (by omega) (by omega)) ty
  refine ⟨w', hrun, ⟨_, hD', fun r => ?_⟩, (Kept.of_grown hg.grown).mono fun k _ e => (Option.some.inj e).symm, ?_⟩
  · by_cases e : r = d
    · subst e
      rw [has_del_same, atKey_del_same]
      simp [kPut]
    · rw [has_del_other (lit_ne e), atKey_del_other (lit_ne e), (hr r).1, (hr r).2]
      simp [kPut, e]
  · obtain ⟨es, clock, es', clock', _, rfl⟩ := hg
    simp [ChangeMaps.setBlock]
end Go.Proofs.Ytclajapdbphlbaa
