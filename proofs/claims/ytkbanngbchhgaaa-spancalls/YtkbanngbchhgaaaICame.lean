/- FUNCTIONS AND WORDS THAT CAME IN: what a reading of them says of memory. -/
import Derived.Test.YtkbanngbchhgaaaIRightR
import Derived.Test.YtkbanngbchhgaaaIApp
import Derived.ChangeArms
import Derived.WideShapes
namespace Go.Proofs.Ytkbanngbchhgaaa
open Go.RowKit

theorem add_nn (b o k : Nat) : (⟨b, o, none⟩ : Addr).add k = ⟨b, o + k, none⟩ := by unfold Addr.add; split <;> simp_all
theorem cell_spot {w : World} {a : Addr} {v : Value} (h : w.cell? a = some v) : a.spot = none := by
  unfold World.cell? at h
  split at h
  · split at h
    · cases h
    · rename_i hs
      cases hx : a.spot with
      | none => rfl
      | some _ => rw [hx] at hs; exact absurd rfl hs
  · cases h

/-- A slice of data that came in, whatever their sort, if each of them may be opened. -/
theorem came_row {α : Type} (K : Kind α) (hn : 0 < K.n) {H : Type} {enc : TypeId × Value → H} {w : World} {base : Nat} {sp : Nat → Bool} {held : Bool} {t e : TypeId} (ht : Try.prog.underlying t = some (.slice e)) (hce : Try.prog.cellsOf e = K.n)
    (op : ∀ (n : Nat) (cs : List Value) (x : DataW H × List MemPlace), DataW.trod enc Try.prog w base sp held n e cs = some x → ∃ y : α, K.C w (fun _ => True) cs y)
    (fuel : Nat) (cs : List Value) (x : DataW H × List MemPlace) (h : DataW.trod enc Try.prog w base sp held fuel t cs = some x) :
    ∃ a l c, cs = [.slice a (List.length l) c] ∧ K.row w (fun _ => True) a l ∧ l.length ≤ c ∧ l.length ≤ maxLen := by
  rcases DataW.trod_slice ht h with ⟨rfl, _⟩ | ⟨a, len, cap, elems, rest, n, rfl, rfl, _, _, hlc, hcap, hel, hcells, _⟩
  · exact ⟨none, [], 0, rfl, trivial, Nat.le_refl _, Nat.zero_le _⟩
  · rw [hce] at hcells
    have hspot : 0 < len → a.spot = none := by
      intro h0
      have hb := hcells 0 h0
      rw [List.getElem?_eq_getElem (by omega)] at hb
      rcases hc : w.cells? base (a.add (0 * K.n)) K.n with _ | cs'
      · rw [hc] at hb; cases hb
      · obtain ⟨_, hl4, hcl⟩ := World.cells?_some hc
        have q0 := hcl 0 (by omega)
        rw [List.getElem?_eq_getElem (by omega)] at q0
        have := cell_spot q0
        simpa [Addr.add] using this
    have one : ∀ i, i < len → ∃ (cs' : List Value) (y : α), a.spot = none ∧ (∀ j u, cs'[j]? = some u → w.cell? ⟨a.block, a.off + i * K.n + j, none⟩ = some u) ∧ K.C w (fun _ => True) cs' y := by
      intro i hi
      have hb := hcells i hi
      rw [List.getElem?_eq_getElem (by omega)] at hb
      rcases hc : w.cells? base (a.add (i * K.n)) K.n with _ | cs'
      · rw [hc] at hb; cases hb
      · rw [hc] at hb
        obtain ⟨y, hy⟩ := op _ _ _ hb
        obtain ⟨_, hl, hcl⟩ := World.cells?_some hc
        have hsp : a.spot = none := hspot (by omega)
        refine ⟨cs', y, hsp, fun j u hj => ?_, hy⟩
        obtain ⟨b, o, _⟩ := a
        simp only at hsp
        subst hsp
        have hjl : j < K.n := by
          rcases Nat.lt_or_ge j K.n with h | h
          · exact h
          · rw [List.getElem?_eq_none (by omega)] at hj; cases hj
        have q := hcl j hjl
        rw [hj, add_nn, add_nn] at q
        exact q
    have build : ∀ m k, m = len - k → k ≤ len → ∃ l : List α, l.length = m ∧ K.row w (fun _ => True) (some ⟨a.block, a.off + k * K.n, none⟩) l := by
      intro m
      induction m with
      | zero => intro k _ _; exact ⟨[], rfl, trivial⟩
      | succ m ihm =>
        intro k hm hk
        obtain ⟨l, hl, hr⟩ := ihm (k + 1) (by omega) (by omega)
        obtain ⟨cs', y, _, hq, hy⟩ := one k (by omega)
        refine ⟨y :: l, by simp [hl], a.block, a.off + k * K.n, cs', rfl, trivial, hq, hy, ?_⟩
        rw [show a.off + k * K.n + K.n = a.off + (k + 1) * K.n by rw [Nat.succ_mul]; omega]
        exact hr
    obtain ⟨l, hl, hr⟩ := build len 0 (by omega) (by omega)
    subst hl
    by_cases h0 : l = []
    · subst h0
      exact ⟨some a, [], cap, rfl, trivial, Nat.zero_le _, Nat.zero_le _⟩
    · have hsp : a.spot = none := hspot (List.length_pos_iff.2 h0)
      obtain ⟨b, o, _⟩ := a
      simp only at hsp
      subst hsp
      exact ⟨some ⟨b, o, none⟩, l, cap, rfl, by simpa using hr, by omega, by omega⟩

theorem cells_ty : Try.prog.cellsOf 56 = 2 := by kernel_rfl
theorem cells_ir : Try.prog.cellsOf 43 = 9 := by kernel_rfl
theorem cells_co : Try.prog.cellsOf 25 = 5 := by kernel_rfl
theorem cells_bool : Try.prog.cellsOf 4 = 1 := by kernel_rfl
theorem cells_str : Try.prog.cellsOf 9 = 1 := by kernel_rfl
theorem cells_int : Try.prog.cellsOf 3 = 1 := by kernel_rfl
theorem cells_u32 : Try.prog.cellsOf 41 = 1 := by kernel_rfl
theorem cells_sint : Try.prog.cellsOf 39 = 1 := by kernel_rfl
theorem cells_sty : Try.prog.cellsOf 22 = 1 := by kernel_rfl
theorem cells_sir : Try.prog.cellsOf 23 = 1 := by kernel_rfl
theorem u32_nat {z : Int} (h : (Lit.int .u32 z).wf = true) : ∃ n : Nat, z = n ∧ n ≤ 4294967295 := by
  have : 0 ≤ z ∧ z ≤ 4294967295 := by simpa [Lit.wf, IntKind.min, IntKind.max, IntKind.signed, IntKind.bits] using h
  exact ⟨z.toNat, by omega, by omega⟩
section
variable {H : Type} {enc : TypeId × Value → H} {w : World} {base : Nat} {sp : Nat → Bool} {held : Bool}
set_option maxRecDepth 100000 in
theorem open_ty (fuel : Nat) (cs : List Value) (x : DataW H × List MemPlace) (h : DataW.trod enc Try.prog w base sp held fuel 56 cs = some x) : ∃ y : Ty, kTy.C w (fun _ => True) cs y := by
  obtain ⟨xs, n, hf, _, hl, hlen, hx⟩ := DataW.trod_struct Try.underlying56 h
  rw [cells_ty] at hl
  match cs, hl, xs, hlen with
  | [v0, v1], _, [y0, y1], _ =>
    have h0 : DataW.trod enc Try.prog w base sp held n 4 (List.take (Try.prog.cellsOf 4) (List.drop 0 [v0, v1])) = some y0 := hx 0 _ rfl
    have h1 : DataW.trod enc Try.prog w base sp held n 3 (List.take (Try.prog.cellsOf 3) (List.drop 1 [v0, v1])) = some y1 := hx 1 _ rfl
    rw [cells_bool] at h0
    rw [cells_int] at h1
    obtain ⟨b, hb, _⟩ := DataW.trod_bool Try.underlying4 h0
    obtain ⟨q, hq, _⟩ := DataW.trod_int Try.underlying3 h1
    simp at hb hq
    subst hb hq
    exact ⟨⟨b, q⟩, rfl⟩
theorem open_i64 (fuel : Nat) (cs : List Value) (x : DataW H × List MemPlace) (h : DataW.trod enc Try.prog w base sp held fuel 3 cs = some x) : ∃ y : Int, kInt.C w (fun _ => True) cs y := by
  obtain ⟨q, hq, _⟩ := DataW.trod_int Try.underlying3 h
  exact ⟨q, hq⟩
set_option maxRecDepth 100000 in
theorem open_ir (fuel : Nat) (cs : List Value) (x : DataW H × List MemPlace) (h : DataW.trod enc Try.prog w base sp held fuel 43 cs = some x) : ∃ y : Ir, kIr.C w (fun _ => True) cs y := by
  obtain ⟨xs, n, hf, _, hl, hlen, hx⟩ := DataW.trod_struct Try.underlying43 h
  rw [cells_ir] at hl
  match cs, hl, xs, hlen with
  | [v0, v1, v2, v3, v4, v5, v6, v7, v8], _, [y0, y1, y2, y3, y4, y5, y6, y7, y8], _ =>
    have h0 : DataW.trod enc Try.prog w base sp held n 3 (List.take (Try.prog.cellsOf 3) (List.drop 0 [v0, v1, v2, v3, v4, v5, v6, v7, v8])) = some y0 := hx 0 _ rfl
    have h1 : DataW.trod enc Try.prog w base sp held n 3 (List.take (Try.prog.cellsOf 3) (List.drop 1 [v0, v1, v2, v3, v4, v5, v6, v7, v8])) = some y1 := hx 1 _ rfl
    have h2 : DataW.trod enc Try.prog w base sp held n 3 (List.take (Try.prog.cellsOf 3) (List.drop 2 [v0, v1, v2, v3, v4, v5, v6, v7, v8])) = some y2 := hx 2 _ rfl
    have h3 : DataW.trod enc Try.prog w base sp held n 3 (List.take (Try.prog.cellsOf 3) (List.drop 3 [v0, v1, v2, v3, v4, v5, v6, v7, v8])) = some y3 := hx 3 _ rfl
    have h4 : DataW.trod enc Try.prog w base sp held n 3 (List.take (Try.prog.cellsOf 3) (List.drop 4 [v0, v1, v2, v3, v4, v5, v6, v7, v8])) = some y4 := hx 4 _ rfl
    have h5 : DataW.trod enc Try.prog w base sp held n 3 (List.take (Try.prog.cellsOf 3) (List.drop 5 [v0, v1, v2, v3, v4, v5, v6, v7, v8])) = some y5 := hx 5 _ rfl
    have h6 : DataW.trod enc Try.prog w base sp held n 41 (List.take (Try.prog.cellsOf 41) (List.drop 6 [v0, v1, v2, v3, v4, v5, v6, v7, v8])) = some y6 := hx 6 _ rfl
    have h7 : DataW.trod enc Try.prog w base sp held n 9 (List.take (Try.prog.cellsOf 9) (List.drop 7 [v0, v1, v2, v3, v4, v5, v6, v7, v8])) = some y7 := hx 7 _ rfl
    have h8 : DataW.trod enc Try.prog w base sp held n 39 (List.take (Try.prog.cellsOf 39) (List.drop 8 [v0, v1, v2, v3, v4, v5, v6, v7, v8])) = some y8 := hx 8 _ rfl
    rw [cells_int] at h0 h1 h2 h3 h4 h5
    rw [cells_u32] at h6
    rw [cells_str] at h7
    rw [cells_sint] at h8
    obtain ⟨q0, e0, _⟩ := DataW.trod_int Try.underlying3 h0
    obtain ⟨q1, e1, _⟩ := DataW.trod_int Try.underlying3 h1
    obtain ⟨q2, e2, _⟩ := DataW.trod_int Try.underlying3 h2
    obtain ⟨q3, e3, _⟩ := DataW.trod_int Try.underlying3 h3
    obtain ⟨q4, e4, _⟩ := DataW.trod_int Try.underlying3 h4
    obtain ⟨q5, e5, _⟩ := DataW.trod_int Try.underlying3 h5
    obtain ⟨q6, e6, hw6⟩ := DataW.trod_int Try.underlying41 h6
    obtain ⟨s, e7, _⟩ := DataW.trod_string Try.underlying9 h7
    obtain ⟨a, l, c, e8, hr, hlc, _⟩ := came_row kInt (by decide) Try.underlying39 cells_int open_i64 n _ y8 h8
    simp at e0 e1 e2 e3 e4 e5 e6 e7 e8
    subst e0 e1 e2 e3 e4 e5 e6 e7 e8
    obtain ⟨m, rfl, hm⟩ := u32_nat hw6.2
    exact ⟨⟨q0, q1, q2, q3, q4, q5, m, s.data.toList, l⟩, a, c, by unfold irCells; rw [bs_of], hlc, (by show m < 4294967296; omega), hr⟩
set_option maxRecDepth 100000 in
theorem open_parts (v0 v1 v2 v3 v4 : Value) (y0 y1 y2 y3 y4 : DataW H × List MemPlace) (n : Nat)
    (k0 : DataW.trod enc Try.prog w base sp held n 9 (List.take (Try.prog.cellsOf 9) (List.drop 0 [v0, v1, v2, v3, v4])) = some y0)
    (k1 : DataW.trod enc Try.prog w base sp held n 22 (List.take (Try.prog.cellsOf 22) (List.drop 1 [v0, v1, v2, v3, v4])) = some y1)
    (k2 : DataW.trod enc Try.prog w base sp held n 3 (List.take (Try.prog.cellsOf 3) (List.drop 2 [v0, v1, v2, v3, v4])) = some y2)
    (k3 : DataW.trod enc Try.prog w base sp held n 3 (List.take (Try.prog.cellsOf 3) (List.drop 3 [v0, v1, v2, v3, v4])) = some y3)
    (k4 : DataW.trod enc Try.prog w base sp held n 23 (List.take (Try.prog.cellsOf 23) (List.drop 4 [v0, v1, v2, v3, v4])) = some y4) :
    ∃ (c : Co) (pa : Option Addr) (pc : Nat) (la : Option Addr) (lc : Nat), [v0, v1, v2, v3, v4] = coCells c pa pc la lc ∧ CoIn w (fun _ => True) c pa pc la lc := by
  rw [cells_str] at k0
  rw [cells_sty] at k1
  rw [cells_int] at k2 k3
  rw [cells_sir] at k4
  obtain ⟨s, e0, _⟩ := DataW.trod_string Try.underlying9 k0
  obtain ⟨a1, l1, c1, e1, r1, g1, _⟩ := came_row kTy (by decide) Try.underlying22 cells_ty open_ty n _ y1 k1
  obtain ⟨q2, e2, _⟩ := DataW.trod_int Try.underlying3 k2
  obtain ⟨q3, e3, _⟩ := DataW.trod_int Try.underlying3 k3
  obtain ⟨a4, l4, c4, e4, r4, g4, _⟩ := came_row kIr (by decide) Try.underlying23 cells_ir open_ir n _ y4 k4
  simp at e0 e1 e2 e3 e4
  subst e0 e1 e2 e3 e4
  exact ⟨⟨s.data.toList, l1, q2, q3, l4⟩, a1, c1, a4, c4, by unfold coCells; rw [bs_of], ⟨g1, g4, r1, r4⟩⟩
set_option maxRecDepth 100000 in
theorem open_co (fuel : Nat) (cs : List Value) (x : DataW H × List MemPlace) (h : DataW.trod enc Try.prog w base sp held fuel 25 cs = some x) : ∃ y : Co, kCo.C w (fun _ => True) cs y := by
  obtain ⟨xs, n, hf, _, hl, hlen, hx⟩ := DataW.trod_struct Try.underlying25 h
  rw [cells_co] at hl
  match cs, hl, xs, hlen with
  | [v0, v1, v2, v3, v4], _, [y0, y1, y2, y3, y4], _ =>
    obtain ⟨c, pa, pc, la, lc, e, hi⟩ := open_parts v0 v1 v2 v3 v4 y0 y1 y2 y3 y4 n (hx 0 _ rfl) (hx 1 _ rfl) (hx 2 _ rfl) (hx 3 _ rfl) (hx 4 _ rfl)
    exact ⟨c, pa, pc, la, lc, e, hi⟩
set_option maxRecDepth 100000 in
theorem came_codes {b0 : Nat} {r : Reach} {v : Value} {d : DataW H} {ps : List MemPlace} (hv : Value.okWide Try.prog w r b0 29 v) (h : DataW.Trod enc Try.prog w base sp held 29 v d ps) :
    ∃ a l c, v = .slice a (List.length l) c ∧ kCo.row w (fun _ => True) a l ∧ l.length ≤ c ∧ l.length ≤ maxLen := by
  obtain ⟨a, n, c, rfl⟩ := Go.WideShapes.okWide_slice Try.underlying29 hv
  obtain ⟨fuel, hf⟩ := h
  obtain ⟨a', l, c', he, hr, hlc, hl⟩ := came_row kCo (by decide) Try.underlying29 cells_co open_co fuel _ _ hf
  simp only [Value.cells] at he
  simp at he
  obtain ⟨rfl, rfl, rfl⟩ := he
  exact ⟨a, l, c, rfl, hr, hlc, hl⟩
set_option maxRecDepth 100000 in
theorem came_code {b0 : Nat} {r : Reach} {v : Value} {d : DataW H} {ps : List MemPlace} (hv : Value.okWide Try.prog w r b0 25 v) (h : DataW.Trod enc Try.prog w base sp held 25 v d ps) :
    ∃ c pa pc la lc, v = coV c pa pc la lc ∧ CoIn w (fun _ => True) c pa pc la lc := by
  obtain ⟨cs, rfl, _⟩ := Go.WideShapes.okWide_struct Try.underlying25 hv
  obtain ⟨fuel, hf⟩ := h
  obtain ⟨xs, n, _, _, hl, hlen, hx⟩ := DataW.trod_struct Try.underlying25 hf
  obtain ⟨L, rfl⟩ : ∃ L : List Value, cs = L.toArray := ⟨cs.toList, by simp⟩
  simp only [Value.cells] at hl hx
  rw [cells_co] at hl
  match L, hl, xs, hlen with
  | [v0, v1, v2, v3, v4], _, [y0, y1, y2, y3, y4], _ =>
    obtain ⟨c, pa, pc, la, lc, e, hi⟩ := open_parts v0 v1 v2 v3 v4 y0 y1 y2 y3 y4 n (hx 0 _ rfl) (hx 1 _ rfl) (hx 2 _ rfl) (hx 3 _ rfl) (hx 4 _ rfl)
    exact ⟨c, pa, pc, la, lc, by unfold coV; rw [e]; rfl, hi⟩
end
end Go.Proofs.Ytkbanngbchhgaaa
