/- HOW SIGNATURES LIE IN MEMORY; label. -/
import Derived.Test.YtlagadofiahijaaDoorFMath
namespace Go.Proofs.YtlagadofiahijaaDoor
open Go.ChangeShapes Go.WideShapes Go.ChangeAt Go.RowKit

theorem Kind.row_at {α : Type} (K : Kind α) {w : World} {S : Nat → Prop} : ∀ {l : List α} {a : Option Addr}, K.row w S a l → ∀ (k : Nat) (x : α), l[k]? = some x →
    ∃ b o cs, a = some ⟨b, o, none⟩ ∧ S b ∧ (∀ j u, cs[j]? = some u → w.cell? ⟨b, o + k * K.n + j, none⟩ = some u) ∧ K.C w S cs x
  | [], _, _, _, _, h => by simp at h
  | y :: l, a, hr, 0, x, h => by
    obtain ⟨b, o, cs, rfl, hS, hc, hC, _⟩ := hr
    have : y = x := by simpa using h
    subst this
    exact ⟨b, o, cs, rfl, hS, fun j u hj => by rw [Nat.zero_mul, Nat.add_zero]; exact hc j u hj, hC⟩
  | y :: l, a, hr, k + 1, x, h => by
    obtain ⟨b, o, cs, rfl, hS, hc, hC, hr⟩ := hr
    obtain ⟨b', o', cs', e, hS', hc', hC'⟩ := Kind.row_at K hr k x (by simpa using h)
    have e' : b' = b ∧ o' = o + K.n := by simpa [eq_comm] using e
    obtain ⟨rfl, rfl⟩ := e'
    refine ⟨b', o, cs', rfl, hS', fun j u hj => ?_, hC'⟩
    have := hc' j u hj
    rw [show o + K.n + k * K.n + j = o + (k + 1) * K.n + j by rw [Nat.succ_mul]; omega] at this
    exact this

/-- Types. -/
def kTy : Kind Ty where
  n := 2
  C := fun _ _ cs t => cs = [.bool t.sec, .int .i64 t.len]
  len := fun h => by rw [h]; rfl
  one := fun h => by rw [h]; simp [Value.oneCell']
  mono := fun h _ => h
/-- Signatures. -/
def kSg : Kind Sg where
  n := 3
  C := fun w S cs x => ∃ a c, cs = [.string (bs x.name), .slice a x.ps.length c, .bool x.sec] ∧ x.ps.length ≤ c ∧ kTy.row w S a x.ps
  len := fun h => by obtain ⟨a, c, rfl, _⟩ := h; rfl
  one := fun h => by obtain ⟨a, c, rfl, _⟩ := h; simp [Value.oneCell']
  mono := fun h hg => by obtain ⟨a, c, rfl, hc, hr⟩ := h; exact ⟨a, c, rfl, hc, kTy.row_mono (by decide) hr hg⟩
/-- The value of a signature. -/
def SgV (w : World) (S : Nat → Prop) (v : Value) (x : Sg) : Prop := ∃ a c, v = .agg #[.string (bs x.name), .slice a x.ps.length c, .bool x.sec] ∧ x.ps.length ≤ c ∧ kTy.row w S a x.ps

/-- What is known of a row of types at a place. -/
theorem ty_at {w : World} {S : Nat → Prop} {a : Option Addr} {l : List Ty} (h : kTy.row w S a l) (k : Nat) (hk : k < l.length) :
    ∃ b o, a = some ⟨b, o, none⟩ ∧ S b ∧ b < w.heap.size ∧ w.cell? ⟨b, o + k * 2, none⟩ = some (.bool l[k].sec) ∧ w.cell? ⟨b, o + k * 2 + 1, none⟩ = some (.int .i64 l[k].len) := by
  obtain ⟨b, o, cs, rfl, hS, hc, rfl⟩ := kTy.row_at h k l[k] (List.getElem?_eq_getElem hk)
  have h0 := hc 0 _ rfl
  have h1 := hc 1 _ rfl
  exact ⟨b, o, rfl, hS, World.block_lt_of_cell? w _ h0, h0, h1⟩
/-- What is known of a row of signatures at a place. -/
theorem sg_at {w : World} {S : Nat → Prop} {a : Option Addr} {l : List Sg} (h : kSg.row w S a l) (k : Nat) (hk : k < l.length) :
    ∃ b o pa pc, a = some ⟨b, o, none⟩ ∧ S b ∧ b < w.heap.size ∧ w.cell? ⟨b, o + k * 3, none⟩ = some (.string (bs l[k].name)) ∧ w.cell? ⟨b, o + k * 3 + 1, none⟩ = some (.slice pa l[k].ps.length pc) ∧ w.cell? ⟨b, o + k * 3 + 2, none⟩ = some (.bool l[k].sec) ∧
      l[k].ps.length ≤ pc ∧ kTy.row w S pa l[k].ps := by
  obtain ⟨b, o, cs, rfl, hS, hc, pa, pc, rfl, hpc, hr⟩ := kSg.row_at h k l[k] (List.getElem?_eq_getElem hk)
  have h0 := hc 0 _ rfl
  have h1 := hc 1 _ rfl
  have h2 := hc 2 _ rfl
  exact ⟨b, o, pa, pc, rfl, hS, World.block_lt_of_cell? w _ h0, h0, h1, h2, hpc, hr⟩

theorem label_any (b : Bool) (w : World) : Calls Tryd.prog 22 #[.bool b] w fun e w' => e = .returned (.string (bs (lab b))) ∧ w' = w := by
  cases b <;> go_enter Tryd.func22, Tryd.ntmps22
  all_goals go_wp2
  all_goals go_ret
  all_goals exact ⟨rfl, rfl⟩
end Go.Proofs.YtlagadofiahijaaDoor
