/- Texts of this proof, put together: FMath, FSig. -/
import Derived.Test.YtbpdhegfdmppgaaGreatDoorM16
import Derived.Lib.IndexMore
import Derived.Lib.AtoiAll
import Derived.Lib.ItoaNum
import Derived.Lib.Strings

/- SIGNATURES, and what is promised of their texts, in plain Lean: no program here. -/
namespace Go.Proofs.YtbpdhegfdmppgaaGreatDoor.Sh
open Go.ChangeShapes Go.WideShapes Go.ChangeAt Go.RowKit

def lab (b : Bool) : List UInt8 := if b then [115, 101, 99] else [112, 117, 98]
/-- A text up to a byte, and what is behind it. -/
def cutB (b : UInt8) : List UInt8 → List UInt8 × List UInt8
  | [] => ([], [])
  | c :: l => if c = b then ([], l) else (c :: (cutB b l).1, (cutB b l).2)
theorem cutB_lib (b : UInt8) (l : List UInt8) : (Lib.cut l [b]).1 = (cutB b l).1 ∧ (Lib.cut l [b]).2.1 = (cutB b l).2 := by
  have key : ∀ l : List UInt8, (Lib.index l [b] = -1 ∧ cutB b l = (l, [])) ∨ (∃ k : Nat, Lib.index l [b] = (k : Int) ∧ cutB b l = (l.take k, l.drop (k + 1))) := by
    intro l
    induction l with
    | nil => left; exact ⟨rfl, rfl⟩
    | cons c l ih =>
      by_cases hc : c = b
      · right
        refine ⟨0, ?_, ?_⟩
        · rw [Lib.index, if_pos (by simp [hc])]; rfl
        · rw [cutB, if_pos hc]; rfl
      · have hp : ¬ ([b].isPrefixOf (c :: l) = true) := by simp [List.isPrefixOf]; exact fun e => hc e.symm
        rcases ih with ⟨h1, h2⟩ | ⟨k, h1, h2⟩
        · left
          exact ⟨by rw [Lib.index, if_neg hp, h1]; rfl, by rw [cutB, if_neg hc, h2]⟩
        · right
          refine ⟨k + 1, ?_, ?_⟩
          · have hk : ¬ ((Lib.index l [b] == -1) = true) := by rw [h1]; simp
            rw [Lib.index, if_neg hp, if_neg hk, h1]; omega
          · rw [cutB, if_neg hc, h2]; rfl
  rcases key l with ⟨h1, h2⟩ | ⟨k, h1, h2⟩
  · rw [Lib.cut, if_neg (by omega), h2]; exact ⟨rfl, rfl⟩
  · rw [Lib.cut, if_pos (by omega), h2, h1]; exact ⟨rfl, rfl⟩
end Go.Proofs.YtbpdhegfdmppgaaGreatDoor.Sh

/- HOW SIGNATURES LIE IN MEMORY; label. -/
namespace Go.Proofs.YtbpdhegfdmppgaaGreatDoor.Sh
open Go.ChangeShapes Go.WideShapes Go.ChangeAt Go.RowKit

theorem Kind.row_at {α : Type} (K : Kind α) {w : World} {S : Nat → Prop} : ∀ {l : List α} {a : Option Addr}, K.row w S a l → ∀ (k : Nat) (x : α), l[k]? = some x →
    ∃ b o cs, a = some ⟨b, o, none⟩ ∧ S b ∧ (∀ j u, cs[j]? = some u → w.cell? ⟨b, o + k * K.n + j, none⟩ = some u) ∧ K.C w S cs x
  | [], _, _, _, _, h => by simp at h
  | y :: l, a, hr, 0, x, h => by
    obtain ⟨b, o, cs, rfl, hS, hc, hC, _⟩ := hr
    have : y = x := by simpa using h
    subst this
    exact ⟨b, o, cs, rfl, hS, fun j u hj => by rw [Nat.zero_mul, Nat.add_zero]; exact hc j u hj, hC⟩
  | y :: l, a, hr, k + 1, x, h => by
    obtain ⟨b, o, cs, rfl, hS, hc, hC, hr⟩ := hr
    obtain ⟨b', o', cs', e, hS', hc', hC'⟩ := Kind.row_at K hr k x (by simpa using h)
    have e' : b' = b ∧ o' = o + K.n := by simpa [eq_comm] using e
    obtain ⟨rfl, rfl⟩ := e'
    refine ⟨b', o, cs', rfl, hS', fun j u hj => ?_, hC'⟩
    have := hc' j u hj
    rw [show o + K.n + k * K.n + j = o + (k + 1) * K.n + j by rw [Nat.succ_mul]; omega] at this
    exact this

end Go.Proofs.YtbpdhegfdmppgaaGreatDoor.Sh
