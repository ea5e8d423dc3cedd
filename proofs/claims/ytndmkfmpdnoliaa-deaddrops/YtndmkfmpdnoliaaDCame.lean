/- FUNCTIONS THAT CAME IN: each instruction's D is an int. -/
import Derived.Test.YtndmkfmpdnoliaaICame
import Derived.Test.YtndmkfmpdnoliaaDDrop
namespace Go.Proofs.Ytndmkfmpdnoliaa
open Go.RowKit

/-- A sort of data of which more is known. -/
def Kind.plus {α : Type} (K : Kind α) (p : α → Prop) : Kind α where
  n := K.n
  C := fun w S cs x => K.C w S cs x ∧ p x
  len := fun h => K.len h.1
  one := fun h => K.one h.1
  mono := fun h hg => ⟨K.mono h.1 hg, h.2⟩
theorem Kind.plus_row {α : Type} {K : Kind α} {p : α → Prop} {w : World} {S : Nat → Prop} : ∀ {l : List α} {a : Option Addr}, (K.plus p).row w S a l → K.row w S a l ∧ ∀ x ∈ l, p x
  | [], _, _ => ⟨trivial, fun x hx => by simp at hx⟩
  | x :: l, a, h => by
    obtain ⟨b, o, cs, e, hS, hc, hC, hr⟩ := h
    have ih := Kind.plus_row hr
    exact ⟨⟨b, o, cs, e, hS, hc, hC.1, ih.1⟩, fun y hy => by
      rcases List.mem_cons.1 hy with rfl | hy
      · exact hC.2
      · exact ih.2 y hy⟩
section
variable {H : Type} {enc : TypeId × Value → H} {w : World} {base : Nat} {sp : Nat → Bool} {held : Bool}
set_option maxRecDepth 100000 in
theorem open_irD (fuel : Nat) (cs : List Value) (x : DataW H × List MemPlace) (h : DataW.trod enc Try.prog w base sp held fuel 50 cs = some x) : ∃ y : Ir, (kIr.plus fun y => In64 y.d).C w (fun _ => True) cs y := by
  obtain ⟨y, hy⟩ := open_ir fuel cs x h
  refine ⟨y, hy, ?_⟩
  obtain ⟨xs, n, hf, _, hl, hlen, hx⟩ := DataW.trod_struct Try.underlying50 h
  obtain ⟨a, c, rfl, _⟩ := hy
  have h9 : xs.length = 9 := hlen
  obtain ⟨y2, hy2⟩ : ∃ y2, xs[2]? = some y2 := ⟨xs[2], List.getElem?_eq_getElem (by omega)⟩
  match xs, h9 with
  | [y0, y1, y2, y3, y4, y5, y6, y7, y8], _ =>
    have h2 : DataW.trod enc Try.prog w base sp held n 3 (List.take (Try.prog.cellsOf 3) (List.drop 2 (irCells y a c))) = some y2 := hx 2 _ rfl
    rw [cells_int] at h2
    obtain ⟨q2, e2, hw⟩ := DataW.trod_int Try.underlying3 h2
    have e3 : q2 = y.d := by
      have : [Value.int .i64 y.d] = [Value.int .i64 q2] := e2
      simpa using this.symm
    have hw2 := hw.2
    rw [e3] at hw2
    have : -9223372036854775808 ≤ y.d ∧ y.d ≤ 9223372036854775807 := by simpa [Lit.wf, IntKind.min, IntKind.max, IntKind.signed, IntKind.bits] using hw2
    exact this
set_option maxRecDepth 100000 in
theorem open_partsD (v0 v1 v2 v3 v4 : Value) (y0 y1 y2 y3 y4 : DataW H × List MemPlace) (n : Nat)
    (k0 : DataW.trod enc Try.prog w base sp held n 9 (List.take (Try.prog.cellsOf 9) (List.drop 0 [v0, v1, v2, v3, v4])) = some y0)
    (k1 : DataW.trod enc Try.prog w base sp held n 36 (List.take (Try.prog.cellsOf 36) (List.drop 1 [v0, v1, v2, v3, v4])) = some y1)
    (k2 : DataW.trod enc Try.prog w base sp held n 3 (List.take (Try.prog.cellsOf 3) (List.drop 2 [v0, v1, v2, v3, v4])) = some y2)
    (k3 : DataW.trod enc Try.prog w base sp held n 3 (List.take (Try.prog.cellsOf 3) (List.drop 3 [v0, v1, v2, v3, v4])) = some y3)
    (k4 : DataW.trod enc Try.prog w base sp held n 37 (List.take (Try.prog.cellsOf 37) (List.drop 4 [v0, v1, v2, v3, v4])) = some y4) :
    ∃ (c : Co) (pa : Option Addr) (pc : Nat) (la : Option Addr) (lc : Nat), [v0, v1, v2, v3, v4] = coCells c pa pc la lc ∧ CoIn w (fun _ => True) c pa pc la lc ∧ D64 c.l := by
  rw [cells_str] at k0
  rw [cells_sty] at k1
  rw [cells_int] at k2 k3
  rw [cells_sir] at k4
  obtain ⟨s, e0, _⟩ := DataW.trod_string Try.underlying9 k0
  obtain ⟨a1, l1, c1, e1, r1, g1, _⟩ := came_row kTy (by decide) Try.underlying36 cells_ty open_ty n _ y1 k1
  obtain ⟨q2, e2, _⟩ := DataW.trod_int Try.underlying3 k2
  obtain ⟨q3, e3, _⟩ := DataW.trod_int Try.underlying3 k3
  obtain ⟨a4, l4, c4, e4, r4, g4, _⟩ := came_row (kIr.plus fun y => In64 y.d) (by decide) Try.underlying37 cells_ir open_irD n _ y4 k4
  obtain ⟨r4, d4⟩ := Kind.plus_row r4
  simp at e0 e1 e2 e3 e4
  subst e0 e1 e2 e3 e4
  exact ⟨⟨s.data.toList, l1, q2, q3, l4⟩, a1, c1, a4, c4, by unfold coCells; rw [bs_of], ⟨g1, g4, r1, r4⟩, d4⟩
set_option maxRecDepth 100000 in
theorem open_coD (fuel : Nat) (cs : List Value) (x : DataW H × List MemPlace) (h : DataW.trod enc Try.prog w base sp held fuel 39 cs = some x) : ∃ y : Co, (kCo.plus fun c => D64 c.l).C w (fun _ => True) cs y := by
  obtain ⟨xs, n, hf, _, hl, hlen, hx⟩ := DataW.trod_struct Try.underlying39 h
  rw [cells_co] at hl
  match cs, hl, xs, hlen with
  | [v0, v1, v2, v3, v4], _, [y0, y1, y2, y3, y4], _ =>
    obtain ⟨c, pa, pc, la, lc, e, hi, hd⟩ := open_partsD v0 v1 v2 v3 v4 y0 y1 y2 y3 y4 n (hx 0 _ rfl) (hx 1 _ rfl) (hx 2 _ rfl) (hx 3 _ rfl) (hx 4 _ rfl)
    exact ⟨c, ⟨pa, pc, la, lc, e, hi⟩, hd⟩
set_option maxRecDepth 100000 in
theorem came_codesD {b0 : Nat} {r : Reach} {v : Value} {d : DataW H} {ps : List MemPlace} (hv : Value.okWide Try.prog w r b0 22 v) (h : DataW.Trod enc Try.prog w base sp held 22 v d ps) :
    ∃ a l c, v = .slice a (List.length l) c ∧ kCo.row w (fun _ => True) a l ∧ l.length ≤ c ∧ l.length ≤ maxLen ∧ ∀ x ∈ l, D64 x.l := by
  obtain ⟨a, n, c, rfl⟩ := Go.WideShapes.okWide_slice Try.underlying22 hv
  obtain ⟨fuel, hf⟩ := h
  obtain ⟨a', l, c', he, hr, hlc, hl⟩ := came_row (kCo.plus fun c => D64 c.l) (by decide) Try.underlying22 cells_co open_coD fuel _ _ hf
  obtain ⟨hr, hd⟩ := Kind.plus_row hr
  simp only [Value.cells] at he
  simp at he
  obtain ⟨rfl, rfl, rfl⟩ := he
  exact ⟨a, l, c, rfl, hr, hlc, hl, hd⟩
set_option maxRecDepth 100000 in
theorem came_codeD {b0 : Nat} {r : Reach} {v : Value} {d : DataW H} {ps : List MemPlace} (hv : Value.okWide Try.prog w r b0 39 v) (h : DataW.Trod enc Try.prog w base sp held 39 v d ps) :
    ∃ c pa pc la lc, v = coV c pa pc la lc ∧ CoIn w (fun _ => True) c pa pc la lc ∧ D64 c.l := by
  obtain ⟨cs, rfl, _⟩ := Go.WideShapes.okWide_struct Try.underlying39 hv
  obtain ⟨fuel, hf⟩ := h
  obtain ⟨xs, n, _, _, hl, hlen, hx⟩ := DataW.trod_struct Try.underlying39 hf
  obtain ⟨L, rfl⟩ : ∃ L : List Value, cs = L.toArray := ⟨cs.toList, by simp⟩
  simp only [Value.cells] at hl hx
  rw [cells_co] at hl
  match L, hl, xs, hlen with
  | [v0, v1, v2, v3, v4], _, [y0, y1, y2, y3, y4], _ =>
    obtain ⟨c, pa, pc, la, lc, e, hi, hd⟩ := open_partsD v0 v1 v2 v3 v4 y0 y1 y2 y3 y4 n (hx 0 _ rfl) (hx 1 _ rfl) (hx 2 _ rfl) (hx 3 _ rfl) (hx 4 _ rfl)
    exact ⟨c, pa, pc, la, lc, by unfold coV; rw [e]; rfl, hi, hd⟩
end
end Go.Proofs.Ytndmkfmpdnoliaa
