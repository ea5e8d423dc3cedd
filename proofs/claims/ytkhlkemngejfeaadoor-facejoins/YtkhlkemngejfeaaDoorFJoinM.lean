/- TWO LISTS' TEXTS, one behind the other: plain facts; rows laid one behind the other. -/
import Derived.Test.YtkhlkemngejfeaaDoorFFindW
namespace Go.Proofs.YtkhlkemngejfeaaDoor
open Go.ChangeShapes Go.WideShapes Go.ChangeAt Go.RowKit Go.Shelf

theorem textR_zero {l : List Sg} (h : (textR l).2 = 0) : l.all mayB = true ∧ (l.map Sg.name).Nodup ∧ (textR l).1 = linesT l := by
  have hm : l.all mayB = true := by
    rcases hm : l.all mayB with _ | _
    · rw [textR_form hm] at h; cases h
    · rfl
  have ho : (l.map Sg.name).Nodup := by
    by_cases ho : (l.map Sg.name).Nodup
    · exact ho
    · rw [textR_twice hm ho] at h; cases h
  exact ⟨hm, ho, by rw [textR_ok hm ho]⟩
/-- Does a name stand in both? -/
def both (a b : List Sg) : Bool := b.any fun y => (findR a y.name).isSome
theorem findR_some {a : List Sg} {nm : List UInt8} : (findR a nm).isSome = true ↔ nm ∈ a.map Sg.name := by
  rw [findR, List.find?_isSome, List.mem_map]
  constructor
  · rintro ⟨x, hx, he⟩; exact ⟨x, hx, by simpa using he⟩
  · rintro ⟨x, hx, he⟩; exact ⟨x, hx, by simpa using he⟩
theorem both_iff {a b : List Sg} (ha : (a.map Sg.name).Nodup) (hb : (b.map Sg.name).Nodup) : both a b = false ↔ ((a ++ b).map Sg.name).Nodup := by
  rw [List.map_append, List.nodup_append]
  constructor
  · intro h
    refine ⟨ha, hb, fun x hx y hy e => ?_⟩
    obtain ⟨z, hz, rfl⟩ := List.mem_map.1 hy
    have := List.any_eq_false.1 h z hz
    exact this (findR_some.2 (by rw [← e]; exact hx))
  · rintro ⟨_, _, h⟩
    rw [both, List.any_eq_false]
    intro z hz hs
    exact h _ (findR_some.1 hs) _ (List.mem_map.2 ⟨z, hz, rfl⟩) rfl
theorem join_read {a b : List Sg} (ha : (textR a).2 = 0) (hb : (textR b).2 = 0) : readR ((textR a).1 ++ (textR b).1) = if both a b then ([], 6) else (a ++ b, 0) := by
  obtain ⟨ha1, ha2, ha3⟩ := textR_zero ha
  obtain ⟨hb1, hb2, hb3⟩ := textR_zero hb
  have hg : gAll (linesT a ++ linesT b) [] = a ++ b := by
    rw [gAll_lines a _ _ ha1, ← List.append_nil (linesT b), gAll_lines b _ _ hb1, gAll_nil]; simp
  have hm : (a ++ b).all mayB = true := by rw [List.all_append, ha1, hb1]; rfl
  have hl : linesT (a ++ b) = linesT a ++ linesT b := by simp [linesT]
  rw [ha3, hb3, readR, hg]
  rcases hbo : both a b with _ | _
  · have hn := (both_iff ha2 hb2).1 hbo
    rw [textR_ok hm hn, hl]; simp
  · have hn : ¬ ((a ++ b).map Sg.name).Nodup := fun h => by have := (both_iff ha2 hb2).2 h; rw [hbo] at this; cases this
    rw [textR_twice hm hn]; simp
theorem both_take (a b : List Sg) (k : Nat) (hk : k < b.length) : both a (b.take (k + 1)) = (both a (b.take k) || (findR a b[k].name).isSome) := by
  rw [both, List.take_add_one, List.getElem?_eq_getElem hk, List.any_append]; simp [both]
theorem Kind.lay_append {α : Type} (K : Kind α) {w : World} {S : Nat → Prop} {ys : List Value} {m : List α} (hm : K.lay w S ys m) : ∀ {l : List α} {xs : List Value}, K.lay w S xs l → K.lay w S (xs ++ ys) (l ++ m)
  | [], xs, h => by cases h; exact hm
  | x :: l, xs, h => by
    obtain ⟨cs, zs, rfl, hC, hr⟩ := h
    exact ⟨cs, zs ++ ys, by simp, hC, Kind.lay_append K hm hr⟩
theorem bs_app (a b : List UInt8) : bs a ++ bs b = bs (a ++ b) := by
  apply ByteArray.ext
  simp [bs, ByteArray.data_append]
end Go.Proofs.YtkhlkemngejfeaaDoor
