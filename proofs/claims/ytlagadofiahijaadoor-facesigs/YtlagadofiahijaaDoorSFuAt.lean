/- FUNCTIONS AND PARAMETERS at a place of a row. -/
import Derived.Test.YtlagadofiahijaaDoorSBase
namespace Go.Proofs.YtlagadofiahijaaDoor.Sh
open Go.ChangeShapes Go.WideShapes Go.ChangeAt Go.RowKit

theorem lfu_at {w : World} {S : Nat → Prop} {a : Option Addr} {l : List Fu} (h : kFu.row w S a l) (i : Nat) (hi : i < l.length) :
    ∃ b q name params sec body k m o nm ls a1 c1 a2 c2 a3 c3, a = some ⟨b, q, none⟩ ∧ l[i] = ⟨name, params, sec, body, .mk k m o nm ls⟩ ∧ b < w.heap.size ∧
      (w.cell? ⟨b, q + i * 9, none⟩ = some (.string (bs name)) ∧ w.cell? ⟨b, q + i * 9 + 1, none⟩ = some (.slice a1 params.length c1) ∧ w.cell? ⟨b, q + i * 9 + 2, none⟩ = some (.bool sec) ∧ w.cell? ⟨b, q + i * 9 + 3, none⟩ = some (.slice a2 body.length c2) ∧ w.cell? ⟨b, q + i * 9 + 4, none⟩ = some (.int .i64 k) ∧ w.cell? ⟨b, q + i * 9 + 5, none⟩ = some (.int .u32 (m : Nat)) ∧ w.cell? ⟨b, q + i * 9 + 6, none⟩ = some (.int .i64 o) ∧ w.cell? ⟨b, q + i * 9 + 7, none⟩ = some (.string (bs nm)) ∧ w.cell? ⟨b, q + i * 9 + 8, none⟩ = some (.slice a3 ls.length c3)) ∧
      ls.length ≤ c3 ∧ kPa.row w S a1 params ∧ smR w S a2 body ∧ exR w S a3 ls := by
  obtain ⟨b, q, cs, rfl, hS, hc, hC⟩ := kFu.row_at h i l[i] (List.getElem?_eq_getElem hi)
  obtain ⟨x, hx⟩ : ∃ x, l[i] = x := ⟨_, rfl⟩
  rw [hx] at hC ⊢
  obtain ⟨name, params, sec, body, k, m, o, nm, ls⟩ := x
  obtain ⟨a1, c1, a2, c2, a3, c3, rfl, h1, h2, h3, r1, r2, r3⟩ := hC
  exact ⟨b, q, name, params, sec, body, k, m, o, nm, ls, a1, c1, a2, c2, a3, c3, rfl, rfl, World.block_lt_of_cell? w _ (hc 0 _ rfl), ⟨hc 0 _ rfl, hc 1 _ rfl, hc 2 _ rfl, hc 3 _ rfl, hc 4 _ rfl, hc 5 _ rfl, hc 6 _ rfl, hc 7 _ rfl, hc 8 _ rfl⟩, h3, r1, r2, r3⟩
theorem lpa_at {w : World} {S : Nat → Prop} {a : Option Addr} {l : List Pa} (h : kPa.row w S a l) (i : Nat) (hi : i < l.length) : ∃ b q, a = some ⟨b, q, none⟩ ∧ w.cell? ⟨b, q + i * 3, none⟩ = some (.string (bs l[i].name)) := by
  obtain ⟨b, q, cs, rfl, hS, hc, hC⟩ := kPa.row_at h i l[i] (List.getElem?_eq_getElem hi)
  have hC' : cs = _ := hC
  subst hC'
  exact ⟨b, q, rfl, hc 0 _ rfl⟩
theorem lstr_at {w : World} {S : Nat → Prop} {a : Option Addr} {l : List (List UInt8)} (h : kStr.row w S a l) (i : Nat) (hi : i < l.length) : ∃ b q, a = some ⟨b, q, none⟩ ∧ w.cell? ⟨b, q + i, none⟩ = some (.string (bs l[i])) := by
  obtain ⟨b, q, cs, rfl, hS, hc, hC⟩ := kStr.row_at h i l[i] (List.getElem?_eq_getElem hi)
  have hC' : cs = _ := hC
  subst hC'
  have := hc 0 _ rfl
  exact ⟨b, q, rfl, by simpa [kStr] using this⟩
end Go.Proofs.YtlagadofiahijaaDoor.Sh
