/- A SET OF REGISTERS, in memory (a map to nothing). -/
import Derived.Test.YtndmkfmpdnoliaaGBase
import Derived.Maps.OwnIn
namespace Go.Proofs.Ytndmkfmpdnoliaa
open Go.ChangeShapes Go.WideShapes Go.ChangeAt Go.RowKit Go.Maps
open Go.WideMaps

/-- The map in block b holds just these; it has been put into n times at most. -/
def Reg (w : World) (b n : Nat) (R : List Int) : Prop := ∃ D : DataW Unit, w.ownsMap Try.prog 3 unitElem b n D ∧ ∀ r : Int, Maps.has D (.int .i64 r) = R.contains r
theorem zero_unit (w : World) : (zeroValue 88).run Try.prog w = .ok (.agg #[]) w := by kernel_rfl
theorem Reg.made (w : World) : Reg (w.alloc (.map #[] 0)) w.heap.size 0 [] :=
  ⟨.map [], World.ownsMap_made w Try.prog 3 _, fun r => by simp [has_eq]⟩
theorem Reg.lt {w : World} {b n : Nat} {R : List Int} (h : Reg w b n R) : b < w.heap.size := by obtain ⟨D, hD, _⟩ := h; exact hD.lt
theorem Reg.keep {w w' : World} {b n : Nat} {R : List Int} (h : Reg w b n R) (hb : w'.heap[b]? = w.heap[b]?) : Reg w' b n R := by
  obtain ⟨D, ⟨es, clock, h1, r⟩, h2⟩ := h
  exact ⟨D, ⟨es, clock, hb.trans h1, r⟩, h2⟩
theorem Reg.congr {w : World} {b n : Nat} {R R' : List Int} (h : Reg w b n R) (he : ∀ r, R.contains r = R'.contains r) : Reg w b n R' := by
  obtain ⟨D, hD, h2⟩ := h
  exact ⟨D, hD, fun r => (h2 r).trans (he r)⟩
theorem Reg.more {w : World} {b n m : Nat} {R : List Int} (h : Reg w b n R) (hn : n ≤ m) : Reg w b m R := by
  obtain ⟨D, ⟨es, clock, h1, h2, h3, h4⟩, r⟩ := h
  exact ⟨D, ⟨es, clock, h1, h2, Nat.le_trans h3 hn, h4⟩, r⟩
theorem Reg.isMap {w : World} {b n : Nat} {R : List Int} (h : Reg w b n R) : ∃ es clock, w.heap[b]? = some (.map es clock) := by
  obtain ⟨D, ⟨es, clock, h1, _⟩, _⟩ := h
  exact ⟨es, clock, h1⟩
/-- Looked into. -/
theorem Reg.look {w : World} {b n : Nat} {R : List Int} (h : Reg w b n R) {r : Int} (h1 : -9223372036854775808 ≤ r) (h2 : r ≤ 9223372036854775807) :
    (Instr.lookup 81 (.map (some b)) (.int .i64 r) true).run Try.prog w = .ok (.tuple #[.agg #[], .bool (R.contains r)]) w := by
  obtain ⟨D, hD, hr⟩ := h
  obtain ⟨v, ps, hrun, hv⟩ := hD.look_ok kint_law Try.underlying81 (zero_unit w) (zd := .agg []) (zp := []) unitElem_mk (kint_key r h1 h2)
  obtain ⟨rfl, _⟩ := unitElem_inv hv
  rw [hrun, hr r]
/-- Put into. -/
theorem Reg.put {w : World} {b n : Nat} {R : List Int} (h : Reg w b n R) (hn : n < maxLen) {d : Int} (h1 : -9223372036854775808 ≤ d) (h2 : d ≤ 9223372036854775807) :
    ∃ w', (Instr.mapUpdate 81 (.map (some b)) (.int .i64 d) (.agg #[])).run Try.prog w = .ok () w' ∧ Reg w' b (n + 1) (d :: R) ∧ w.grownBy w' (some b) ∧ w'.heap.size = w.heap.size := by
  obtain ⟨D, hD, hr⟩ := h
  obtain ⟨w', hrun, hD', hg⟩ := hD.store kint_law Try.underlying81 hn (kint_key d h1 h2) (unitElem_mk (H := Unit))
  refine ⟨w', hrun, ⟨_, hD', fun r => ?_⟩, hg.grown, ?_⟩
  · by_cases e : r = d
    · subst e
      have hkl : WideAt.IsKeyLit (Lit.int .i64 r) := kint_law.one.key ⟨_, kint_key r h1 h2⟩
      rw [has_put_same hD.isMap hkl]
      simp
    · rw [has_put_other (lit_ne e), hr r]
      simp [e]
  · obtain ⟨es, clock, es', clock', _, rfl⟩ := hg
    simp [ChangeMaps.setBlock]
end Go.Proofs.Ytndmkfmpdnoliaa
