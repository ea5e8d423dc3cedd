/- SIGNATURES THAT CAME IN: what a reading of them says of memory. -/
import Derived.Test.YtjkoededkhndkaaDoorFRow
import Derived.ChangeArms
import Derived.WideShapes
namespace Go.Proofs.YtjkoededkhndkaaDoor
open Go.RowKit

theorem cell_spot {w : World} {a : Addr} {v : Value} (h : w.cell? a = some v) : a.spot = none := by
  unfold World.cell? at h
  split at h
  · split at h
    · cases h
    · rename_i hs
      cases hx : a.spot with
      | none => rfl
      | some _ => rw [hx] at hs; exact absurd rfl hs
  · cases h
theorem add_none (b o k : Nat) : (⟨b, o, none⟩ : Addr).add k = ⟨b, o + k, none⟩ := by unfold Addr.add; split <;> simp_all

/-- A slice of data that came in, whatever their sort, if each of them may be opened. -/
theorem came_row {α : Type} (K : Kind α) (hn : 0 < K.n) {H : Type} {enc : TypeId × Value → H} {w : World} {base : Nat} {sp : Nat → Bool} {held : Bool} {t e : TypeId} (ht : Tryd.prog.underlying t = some (.slice e)) (hce : Tryd.prog.cellsOf e = K.n)
    (op : ∀ (n : Nat) (cs : List Value) (x : DataW H × List MemPlace), DataW.trod enc Tryd.prog w base sp held n e cs = some x → ∃ y : α, K.C w (fun _ => True) cs y)
    (fuel : Nat) (cs : List Value) (x : DataW H × List MemPlace) (h : DataW.trod enc Tryd.prog w base sp held fuel t cs = some x) :
    ∃ a l c, cs = [.slice a (List.length l) c] ∧ K.row w (fun _ => True) a l ∧ l.length ≤ c ∧ l.length ≤ maxLen := by
  rcases DataW.trod_slice ht h with ⟨rfl, _⟩ | ⟨a, len, cap, elems, rest, n, rfl, rfl, _, _, hlc, hcap, hel, hcells, _⟩
  · exact ⟨none, [], 0, rfl, trivial, Nat.le_refl _, Nat.zero_le _⟩
  · rw [hce] at hcells
    have hspot : 0 < len → a.spot = none := by
      intro h0
      have hb := hcells 0 h0
      rw [List.getElem?_eq_getElem (by omega)] at hb
      rcases hc : w.cells? base (a.add (0 * K.n)) K.n with _ | cs'
      · rw [hc] at hb; cases hb
      · obtain ⟨_, hl4, hcl⟩ := World.cells?_some hc
        have q0 := hcl 0 (by omega)
        rw [List.getElem?_eq_getElem (by omega)] at q0
        have := cell_spot q0
        simpa [Addr.add] using this
    have one : ∀ i, i < len → ∃ (cs' : List Value) (y : α), a.spot = none ∧ (∀ j u, cs'[j]? = some u → w.cell? ⟨a.block, a.off + i * K.n + j, none⟩ = some u) ∧ K.C w (fun _ => True) cs' y := by
      intro i hi
      have hb := hcells i hi
      rw [List.getElem?_eq_getElem (by omega)] at hb
      rcases hc : w.cells? base (a.add (i * K.n)) K.n with _ | cs'
      · rw [hc] at hb; cases hb
      · rw [hc] at hb
        obtain ⟨y, hy⟩ := op _ _ _ hb
        obtain ⟨_, hl, hcl⟩ := World.cells?_some hc
        have hsp : a.spot = none := hspot (by omega)
        refine ⟨cs', y, hsp, fun j u hj => ?_, hy⟩
        obtain ⟨b, o, _⟩ := a
        simp only at hsp
        subst hsp
        have hjl : j < K.n := by
          rcases Nat.lt_or_ge j K.n with h | h
          · exact h
          · rw [List.getElem?_eq_none (by omega)] at hj; cases hj
        have q := hcl j hjl
        rw [hj, add_none, add_none] at q
        exact q
    have build : ∀ m k, m = len - k → k ≤ len → ∃ l : List α, l.length = m ∧ K.row w (fun _ => True) (some ⟨a.block, a.off + k * K.n, none⟩) l := by
      intro m
      induction m with
      | zero => intro k _ _; exact ⟨[], rfl, trivial⟩
      | succ m ihm =>
        intro k hm hk
        obtain ⟨l, hl, hr⟩ := ihm (k + 1) (by omega) (by omega)
        obtain ⟨cs', y, _, hq, hy⟩ := one k (by omega)
        refine ⟨y :: l, by simp [hl], a.block, a.off + k * K.n, cs', rfl, trivial, hq, hy, ?_⟩
        rw [show a.off + k * K.n + K.n = a.off + (k + 1) * K.n by rw [Nat.succ_mul]; omega]
        exact hr
    obtain ⟨l, hl, hr⟩ := build len 0 (by omega) (by omega)
    subst hl
    by_cases h0 : l = []
    · subst h0
      exact ⟨some a, [], cap, rfl, trivial, Nat.zero_le _, Nat.zero_le _⟩
    · have hsp : a.spot = none := hspot (List.length_pos_iff.2 h0)
      obtain ⟨b, o, _⟩ := a
      simp only at hsp
      subst hsp
      exact ⟨some ⟨b, o, none⟩, l, cap, rfl, by simpa using hr, by omega, by omega⟩

theorem cells_ty : Tryd.prog.cellsOf 30 = 2 := by kernel_rfl
theorem cells_sg : Tryd.prog.cellsOf 33 = 3 := by kernel_rfl
theorem cells_one : Tryd.prog.cellsOf 4 = 1 ∧ Tryd.prog.cellsOf 9 = 1 ∧ Tryd.prog.cellsOf 31 = 1 ∧ Tryd.prog.cellsOf 3 = 1 := ⟨by kernel_rfl, by kernel_rfl, by kernel_rfl, by kernel_rfl⟩
set_option maxRecDepth 100000 in
theorem open_ty {H : Type} {enc : TypeId × Value → H} {w : World} {base : Nat} {sp : Nat → Bool} {held : Bool} (fuel : Nat) (cs : List Value) (x : DataW H × List MemPlace) (h : DataW.trod enc Tryd.prog w base sp held fuel 30 cs = some x) :
    ∃ y : Ty, kTy.C w (fun _ => True) cs y := by
  obtain ⟨xs, n, hf, _, hl, hlen, hx⟩ := DataW.trod_struct Tryd.underlying30 h
  rw [cells_ty] at hl
  obtain ⟨c4, c9, c23, c3⟩ := cells_one
  match cs, hl, xs, hlen with
  | [v0, v1], _, [y0, y1], _ =>
    have h0 : DataW.trod enc Tryd.prog w base sp held n 4 (List.take (Tryd.prog.cellsOf 4) (List.drop 0 [v0, v1])) = some y0 := hx 0 _ rfl
    have h1 : DataW.trod enc Tryd.prog w base sp held n 3 (List.take (Tryd.prog.cellsOf 3) (List.drop 1 [v0, v1])) = some y1 := hx 1 _ rfl
    rw [c4] at h0
    rw [c3] at h1
    obtain ⟨b, hb, _⟩ := DataW.trod_bool Tryd.underlying4 h0
    obtain ⟨q, hq, _⟩ := DataW.trod_int Tryd.underlying3 h1
    simp at hb hq
    subst hb hq
    exact ⟨⟨b, q⟩, rfl⟩
set_option maxRecDepth 100000 in
theorem open_sg {H : Type} {enc : TypeId × Value → H} {w : World} {base : Nat} {sp : Nat → Bool} {held : Bool} (fuel : Nat) (cs : List Value) (x : DataW H × List MemPlace) (h : DataW.trod enc Tryd.prog w base sp held fuel 33 cs = some x) :
    ∃ y : Sg, kSg.C w (fun _ => True) cs y := by
  obtain ⟨xs, n, hf, _, hl, hlen, hx⟩ := DataW.trod_struct Tryd.underlying33 h
  rw [cells_sg] at hl
  obtain ⟨c4, c9, c23, c3⟩ := cells_one
  match cs, hl, xs, hlen with
  | [v0, v1, v2], _, [y0, y1, y2], _ =>
    have h0 : DataW.trod enc Tryd.prog w base sp held n 9 (List.take (Tryd.prog.cellsOf 9) (List.drop 0 [v0, v1, v2])) = some y0 := hx 0 _ rfl
    have h1 : DataW.trod enc Tryd.prog w base sp held n 31 (List.take (Tryd.prog.cellsOf 31) (List.drop 1 [v0, v1, v2])) = some y1 := hx 1 _ rfl
    have h2 : DataW.trod enc Tryd.prog w base sp held n 4 (List.take (Tryd.prog.cellsOf 4) (List.drop 2 [v0, v1, v2])) = some y2 := hx 2 _ rfl
    rw [c9] at h0
    rw [c23] at h1
    rw [c4] at h2
    obtain ⟨s, hs, _⟩ := DataW.trod_string Tryd.underlying9 h0
    obtain ⟨a, l, c, ha, hr, hlc, _⟩ := came_row kTy (by decide) Tryd.underlying31 cells_ty open_ty n _ y1 h1
    obtain ⟨b, hb, _⟩ := DataW.trod_bool Tryd.underlying4 h2
    simp at hs ha hb
    subst hs ha hb
    exact ⟨⟨s.data.toList, l, b⟩, a, c, by rw [bs_of], hlc, hr⟩
set_option maxRecDepth 100000 in
theorem came_sigs {H : Type} {enc : TypeId × Value → H} {w : World} {base b0 : Nat} {r : Reach} {sp : Nat → Bool} {held : Bool} {v : Value} {d : DataW H} {ps : List MemPlace} (hv : Value.okWide Tryd.prog w r b0 23 v) (h : DataW.Trod enc Tryd.prog w base sp held 23 v d ps) :
    ∃ a l c, v = .slice a (List.length l) c ∧ kSg.row w (fun _ => True) a l ∧ l.length ≤ c ∧ l.length ≤ maxLen := by
  obtain ⟨a, n, c, rfl⟩ := Go.WideShapes.okWide_slice Tryd.underlying23 hv
  obtain ⟨fuel, hf⟩ := h
  obtain ⟨a', l, c', he, hr, hlc, hl⟩ := came_row kSg (by decide) Tryd.underlying23 cells_sg open_sg fuel _ _ hf
  simp only [Value.cells] at he
  simp at he
  obtain ⟨rfl, rfl, rfl⟩ := he
  exact ⟨a, l, c, rfl, hr, hlc, hl⟩
end Go.Proofs.YtjkoededkhndkaaDoor
