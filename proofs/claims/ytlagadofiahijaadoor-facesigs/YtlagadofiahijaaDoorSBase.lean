/- PARTS of the unit's texts that are wanted here. -/
import Derived.Test.YtlagadofiahijaaDoorSSm
import Derived.Test.YtlagadofiahijaaDoorSHeavyM
import Derived.Lib.MinMax
import Derived.ChangeArms
import Derived.WideShapes
namespace Go.Proofs.YtlagadofiahijaaDoor.Sh
open Go.ChangeShapes Go.WideShapes Go.ChangeAt Go.RowKit

theorem ex_at {w : World} {S : Nat → Prop} {a : Option Addr} {l : List Ex} (h : kEx.row w S a l) (k : Nat) (hk : k < l.length) :
    ∃ b o kind n op name ls a' c', a = some ⟨b, o, none⟩ ∧ l[k] = .mk kind n op name ls ∧ S b ∧ b < w.heap.size ∧ w.cell? ⟨b, o + k * 5, none⟩ = some (.int .i64 kind) ∧ w.cell? ⟨b, o + k * 5 + 1, none⟩ = some (.int .u32 (n : Nat)) ∧ w.cell? ⟨b, o + k * 5 + 2, none⟩ = some (.int .i64 op) ∧ w.cell? ⟨b, o + k * 5 + 3, none⟩ = some (.string (bs name)) ∧ w.cell? ⟨b, o + k * 5 + 4, none⟩ = some (.slice a' ls.length c') ∧ ls.length ≤ c' ∧ exR w S a' ls := by
  obtain ⟨b, o, cs, rfl, hS, hc, hC⟩ := kEx.row_at h k l[k] (List.getElem?_eq_getElem hk)
  obtain ⟨x, hx⟩ : ∃ x, l[k] = x := ⟨_, rfl⟩
  rw [hx] at hC ⊢
  obtain ⟨kind, n, op, name, ls⟩ := x
  have hC' : exC w S cs (.mk kind n op name ls) := hC
  rw [exC] at hC'
  obtain ⟨a', c', rfl, hlc, hr⟩ := hC'
  have h0 := hc 0 _ rfl
  exact ⟨b, o, kind, n, op, name, ls, a', c', rfl, rfl, hS, World.block_lt_of_cell? w _ h0, h0, hc 1 _ rfl, hc 2 _ rfl, hc 3 _ rfl, hc 4 _ rfl, hlc, hr⟩
theorem drew_bl (w : World) : Below w.heap.size w w.drew := ⟨rfl, rfl, rfl, Nat.le_refl _, fun _ _ => rfl⟩
theorem cells_of {w : World} {b : Nat} {cs : List Value} {t : TypeId} {f : Nat × Nat} (h : w.heap[b]? = some (.cells cs.toArray t f)) : ∀ j u, cs[j]? = some u → w.cell? ⟨b, 0 + j, none⟩ = some u := fun j u hj => by
  simp [World.cell?, h, hj]
theorem _root_.Go.Proofs.YtlagadofiahijaaDoor.Kind.lay_blk {α : Type} (K : Kind α) {w : World} {S : Nat → Prop} {cs : List Value} {l : List α} {t : TypeId} (h : K.lay w S cs l) : K.row (w.alloc (.cells cs.toArray t)) (fun b => S b ∨ b = w.heap.size) (some ⟨w.heap.size, 0, none⟩) l :=
  K.lay_row (S := S) (fun _ h => .inl h) w.heap.size (.inr rfl) 0 (K.lay_mono h fun _ hb hlt => ⟨hb, heap_alloc_old w _ hlt⟩) (cells_of (heap_alloc_new w _))

mutual
def smOk : Sm → Prop
  | .mk _ _ _ _ _ _ ix e body els => exOk ix ∧ exOk e ∧ smOks body ∧ smOks els
def smOks : List Sm → Prop
  | [] => True
  | x :: l => smOk x ∧ smOks l
end
theorem smOk_mem : ∀ (l : List Sm) (x : Sm), x ∈ l → smOks l → smOk x
  | [], _, h, _ => by cases h
  | a :: l, x, h, hl => by
    rw [smOks] at hl
    rcases List.mem_cons.1 h with rfl | h
    · exact hl.1
    · exact smOk_mem l x h hl.2
end Go.Proofs.YtlagadofiahijaaDoor.Sh
