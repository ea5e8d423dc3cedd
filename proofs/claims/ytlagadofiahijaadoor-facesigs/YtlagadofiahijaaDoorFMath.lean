/- SIGNATURES, and what is promised of their texts, in plain Lean: no program here. -/
import Derived.Test.YtlagadofiahijaaDoorFName
import Derived.Lib.IndexMore
import Derived.Lib.AtoiAll
import Derived.Lib.ItoaNum
import Derived.Lib.Strings
namespace Go.Proofs.YtlagadofiahijaaDoor
open Go.ChangeShapes Go.WideShapes Go.ChangeAt Go.RowKit

/-- A type. -/
structure Ty where
  sec : Bool
  len : Int
deriving DecidableEq
/-- A signature. -/
structure Sg where
  name : List UInt8
  ps : List Ty
  sec : Bool
deriving DecidableEq

def lab (b : Bool) : List UInt8 := if b then [115, 101, 99] else [112, 117, 98]
/-- A parameter in a line. -/
def tyT (t : Ty) : List UInt8 := 32 :: lab t.sec ++ (if 0 < t.len then Lib.decDigits t.len.toNat else [])
/-- The end of a line. -/
def endT (b : Bool) : List UInt8 := [32, 58, 32] ++ lab b ++ [10]
/-- A signature's line. -/
def lineT (x : Sg) : List UInt8 := x.name ++ x.ps.flatMap tyT ++ endT x.sec
/-- All lines. -/
def linesT (l : List Sg) : List UInt8 := l.flatMap lineT
def tyOk (t : Ty) : Bool := decide (0 ≤ t.len) && decide (t.len ≤ 16)
/-- A text up to a byte, and what is behind it. -/
def cutB (b : UInt8) : List UInt8 → List UInt8 × List UInt8
  | [] => ([], [])
  | c :: l => if c = b then ([], l) else (c :: (cutB b l).1, (cutB b l).2)
/-- May a signature be? -/
def mayB (x : Sg) : Bool := isName (cutB 46 x.name).1 && (isName (cutB 46 x.name).2 && (decide (x.ps.length ≤ 6) && x.ps.all tyOk))
/-- Has no name come twice? -/
def onceB : List Sg → Bool
  | [] => true
  | x :: l => !(l.any fun y => y.name == x.name) && onceB l
/-- The text of a list. -/
def textR (l : List Sg) : List UInt8 × Int := if l.all mayB then (if onceB l then (linesT l, 0) else ([], 9)) else ([], 6)

theorem cutB_none {b : UInt8} : ∀ {l : List UInt8}, b ∉ l → cutB b l = (l, [])
  | [], _ => rfl
  | c :: l, h => by
    have hc : ¬ c = b := fun e => h (by simp [e])
    have hl := cutB_none (b := b) (l := l) fun e => h (by simp [e])
    rw [cutB, if_neg hc, hl]
theorem cutB_some {b : UInt8} : ∀ {l r : List UInt8}, b ∉ l → cutB b (l ++ b :: r) = (l, r)
  | [], r, _ => by rw [List.nil_append, cutB, if_pos rfl]
  | c :: l, r, h => by
    have hc : ¬ c = b := fun e => h (by simp [e])
    have hl := cutB_some (b := b) (l := l) (r := r) fun e => h (by simp [e])
    rw [List.cons_append, cutB, if_neg hc, hl]
theorem cutB_len {b : UInt8} : ∀ (l : List UInt8), (cutB b l).1.length ≤ l.length ∧ (cutB b l).2.length ≤ l.length ∧ (l ≠ [] → (cutB b l).2.length < l.length)
  | [] => ⟨Nat.le_refl _, Nat.le_refl _, fun h => absurd rfl h⟩
  | c :: l => by
    have := cutB_len (b := b) l
    rw [cutB]
    split
    · simp
    · simp only [List.length_cons]; exact ⟨by omega, by omega, fun _ => by omega⟩
theorem cutB_lib (b : UInt8) (l : List UInt8) : (Lib.cut l [b]).1 = (cutB b l).1 ∧ (Lib.cut l [b]).2.1 = (cutB b l).2 := by
  have key : ∀ l : List UInt8, (Lib.index l [b] = -1 ∧ cutB b l = (l, [])) ∨ (∃ k : Nat, Lib.index l [b] = (k : Int) ∧ cutB b l = (l.take k, l.drop (k + 1))) := by
    intro l
    induction l with
    | nil => left; exact ⟨rfl, rfl⟩
    | cons c l ih =>
      by_cases hc : c = b
      · right
        refine ⟨0, ?_, ?_⟩
        · rw [Lib.index, if_pos (by simp [hc])]; rfl
        · rw [cutB, if_pos hc]; rfl
      · have hp : ¬ ([b].isPrefixOf (c :: l) = true) := by simp [List.isPrefixOf]; exact fun e => hc e.symm
        rcases ih with ⟨h1, h2⟩ | ⟨k, h1, h2⟩
        · left
          exact ⟨by rw [Lib.index, if_neg hp, h1]; rfl, by rw [cutB, if_neg hc, h2]⟩
        · right
          refine ⟨k + 1, ?_, ?_⟩
          · have hk : ¬ ((Lib.index l [b] == -1) = true) := by rw [h1]; simp
            rw [Lib.index, if_neg hp, if_neg hk, h1]; omega
          · rw [cutB, if_neg hc, h2]; rfl
  rcases key l with ⟨h1, h2⟩ | ⟨k, h1, h2⟩
  · rw [Lib.cut, if_neg (by omega), h2]; exact ⟨rfl, rfl⟩
  · rw [Lib.cut, if_pos (by omega), h2, h1]; exact ⟨rfl, rfl⟩
end Go.Proofs.YtlagadofiahijaaDoor
