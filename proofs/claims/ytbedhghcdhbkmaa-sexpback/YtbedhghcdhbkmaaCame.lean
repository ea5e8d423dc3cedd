/- NODES THAT CAME IN: what a reading of them says of memory. -/
import Derived.Test.YtbedhghcdhbkmaaSame
import Derived.ChangeArms
import Derived.WideShapes
namespace Go.Proofs.Ytbedhghcdhbkmaa
open Go.RowKit

theorem came_cells37 : Try.prog.cellsOf 37 = 4 := by kernel_rfl
theorem came_cells1 : Try.prog.cellsOf 4 = 1 ∧ Try.prog.cellsOf 9 = 1 ∧ Try.prog.cellsOf 23 = 1 ∧ Try.prog.cellsOf 3 = 1 := ⟨by kernel_rfl, by kernel_rfl, by kernel_rfl, by kernel_rfl⟩

theorem cell_spot {w : World} {a : Addr} {v : Value} (h : w.cell? a = some v) : a.spot = none := by
  unfold World.cell? at h
  split at h
  · split at h
    · cases h
    · rename_i hs
      cases hx : a.spot with
      | none => rfl
      | some _ => rw [hx] at hs; exact absurd rfl hs
  · cases h

theorem add_none (b o k : Nat) : (⟨b, o, none⟩ : Addr).add k = ⟨b, o + k, none⟩ := by unfold Addr.add; split <;> simp_all

theorem open_node {H : Type} {enc : TypeId × Value → H} {w : World} {base : Nat} {sp : Nat → Bool} {held : Bool} {fuel : Nat} {cs : List Value} {x : DataW H × List MemPlace} (h : DataW.trod enc Try.prog w base sp held fuel 37 cs = some x) :
    ∃ (il : Bool) (s : ByteArray) (v : Value) (p : Int) (n : Nat) (y : DataW H × List MemPlace), cs = [.bool il, .string s, v, .int .i64 p] ∧ fuel = n + 1 ∧ DataW.trod enc Try.prog w base sp held n 23 [v] = some y := by
  obtain ⟨xs, n, hf, _, hl, hlen, hx⟩ := DataW.trod_struct Try.underlying37 h
  rw [came_cells37] at hl
  obtain ⟨c4, c9, c23, c3⟩ := came_cells1
  match cs, hl, xs, hlen with
  | [v0, v1, v2, v3], _, [y0, y1, y2, y3], _ =>
    have h0 : DataW.trod enc Try.prog w base sp held n 4 (List.take (Try.prog.cellsOf 4) (List.drop 0 [v0, v1, v2, v3])) = some y0 := hx 0 _ rfl
    have h1 : DataW.trod enc Try.prog w base sp held n 9 (List.take (Try.prog.cellsOf 9) (List.drop 1 [v0, v1, v2, v3])) = some y1 := hx 1 _ rfl
    have h2 : DataW.trod enc Try.prog w base sp held n 23 (List.take (Try.prog.cellsOf 23) (List.drop 2 [v0, v1, v2, v3])) = some y2 := hx 2 _ rfl
    have h3 : DataW.trod enc Try.prog w base sp held n 3 (List.take (Try.prog.cellsOf 3) (List.drop 3 [v0, v1, v2, v3])) = some y3 := hx 3 _ rfl
    rw [c4] at h0
    rw [c9] at h1
    rw [c23] at h2
    rw [c3] at h3
    obtain ⟨b, hb, _⟩ := DataW.trod_bool Try.underlying4 h0
    obtain ⟨s, hs, _⟩ := DataW.trod_string Try.underlying9 h1
    obtain ⟨q, hq, _⟩ := DataW.trod_int Try.underlying3 h3
    simp at hb hs hq
    subst hb hs hq
    exact ⟨b, s, v2, q, n, y2, rfl, hf, by simpa using h2⟩

theorem open_nodes {H : Type} {enc : TypeId × Value → H} {w : World} {base : Nat} {sp : Nat → Bool} {held : Bool} (fuel : Nat) : ∀ (cs : List Value) (x : DataW H × List MemPlace), DataW.trod enc Try.prog w base sp held fuel 23 cs = some x →
    ∃ a l c, cs = [.slice a l.length c] ∧ Row (fun _ => True) w a l ∧ l.length ≤ maxLen := by
  induction fuel using Nat.strongRecOn with
  | _ fuel ih =>
    intro cs x h
    rcases DataW.trod_slice Try.underlying23 h with ⟨rfl, _⟩ | ⟨a, len, cap, elems, rest, n, rfl, rfl, _, _, hlc, hcap, hel, hcells, _⟩
    · exact ⟨none, [], 0, rfl, .nil _, Nat.zero_le _⟩
    · rw [came_cells37] at hcells
      have hspot : 0 < len → a.spot = none := by
        intro h0
        have hb := hcells 0 h0
        rw [List.getElem?_eq_getElem (by omega)] at hb
        rcases hc : w.cells? base (a.add (0 * 4)) 4 with _ | cs'
        · rw [hc] at hb; cases hb
        · obtain ⟨_, hl4, hcl⟩ := World.cells?_some hc
          have q0 := hcl 0 (by omega)
          rw [List.getElem?_eq_getElem (by omega)] at q0
          have := cell_spot q0
          simpa [Addr.add] using this
      have one : ∀ i, i < len → ∃ il wd a' ks c' p, a.spot = none ∧ w.cell? ⟨a.block, a.off + i * 4, none⟩ = some (.bool il) ∧ w.cell? ⟨a.block, a.off + i * 4 + 1, none⟩ = some (.string (bs wd)) ∧
          w.cell? ⟨a.block, a.off + i * 4 + 2, none⟩ = some (.slice a' (List.length ks) c') ∧ w.cell? ⟨a.block, a.off + i * 4 + 3, none⟩ = some (.int .i64 p) ∧ Row (fun _ => True) w a' ks := by
        intro i hi
        have hb := hcells i hi
        rw [List.getElem?_eq_getElem (by omega)] at hb
        rcases hc : w.cells? base (a.add (i * 4)) 4 with _ | cs'
        · rw [hc] at hb; cases hb
        · rw [hc] at hb
          obtain ⟨il, s, v, p, m, y, rfl, hm, hk⟩ := open_node hb
          obtain ⟨a', ks, c', hv, hr, _⟩ := ih m (by omega) [v] y hk
          simp only [List.cons.injEq, and_true] at hv
          subst hv
          obtain ⟨_, _, hcl⟩ := World.cells?_some hc
          have q0 := hcl 0 (by omega)
          have q1 := hcl 1 (by omega)
          have q2 := hcl 2 (by omega)
          have q3 := hcl 3 (by omega)
          simp only [List.getElem?_cons_zero, List.getElem?_cons_succ] at q0 q1 q2 q3
          have hsp : a.spot = none := hspot (by omega)
          obtain ⟨b, o, _⟩ := a
          simp only at hsp
          subst hsp
          rw [add_none, add_none] at q0 q1 q2 q3
          exact ⟨il, s.data.toList, a', ks, c', p, rfl, by simpa using q0, by rw [bs_of]; exact q1, q2, q3, hr⟩
      have build : ∀ m k, m = len - k → k ≤ len → ∃ l, l.length = m ∧ Row (fun _ => True) w (some ⟨a.block, a.off + k * 4, none⟩) l := by
        intro m
        induction m with
        | zero => intro k _ _; exact ⟨[], rfl, .nil _⟩
        | succ m ihm =>
          intro k hm hk
          obtain ⟨l, hl, hr⟩ := ihm (k + 1) (by omega) (by omega)
          obtain ⟨il, wd, a', ks, c', p, _, q0, q1, q2, q3, q4⟩ := one k (by omega)
          refine ⟨.mk il wd ks p :: l, by simp [hl], .cons a.block (a.off + k * 4) il wd ks p l a' c' trivial q0 q1 q2 q3 q4 ?_⟩
          rw [show a.off + k * 4 + 4 = a.off + (k + 1) * 4 by omega]
          exact hr
      obtain ⟨l, hl, hr⟩ := build len 0 (by omega) (by omega)
      subst hl
      by_cases h0 : l = []
      · subst h0
        exact ⟨some a, [], cap, rfl, .nil _, Nat.zero_le _⟩
      · have hsp : a.spot = none := hspot (List.length_pos_iff.2 h0)
        obtain ⟨b, o, _⟩ := a
        simp only at hsp
        subst hsp
        exact ⟨some ⟨b, o, none⟩, l, cap, rfl, by simpa using hr, by omega⟩

theorem came_nodes {H : Type} {enc : TypeId × Value → H} {w : World} {base b0 : Nat} {r : Reach} {sp : Nat → Bool} {held : Bool} {v : Value} {d : DataW H} {ps : List MemPlace} (hv : Value.okWide Try.prog w r b0 23 v) (h : DataW.Trod enc Try.prog w base sp held 23 v d ps) :
    ∃ a l c, v = .slice a (List.length l) c ∧ Row (fun _ => True) w a l ∧ l.length ≤ maxLen := by
  obtain ⟨a, n, c, rfl⟩ := Go.WideShapes.okWide_slice Try.underlying23 hv
  obtain ⟨fuel, hf⟩ := h
  obtain ⟨a', l, c', he, hr, hl⟩ := open_nodes fuel _ _ hf
  simp only [Value.cells] at he
  simp at he
  obtain ⟨rfl, rfl, rfl⟩ := he
  exact ⟨a, l, c, rfl, hr, hl⟩
end Go.Proofs.Ytbedhghcdhbkmaa
