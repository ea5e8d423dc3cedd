/- Texts of this proof, put together: FMath, FSig. -/
import Derived.Test.YtpagbhgnkbbdjaaGreatDoorM16
import Derived.Lib.IndexMore
import Derived.Lib.AtoiAll
import Derived.Lib.ItoaNum
import Derived.Lib.Strings

/- SIGNATURES, and what is promised of their texts, in plain Lean: no program here. -/
namespace Go.Proofs.YtpagbhgnkbbdjaaGreatDoor.Sh
open Go.ChangeShapes Go.WideShapes Go.ChangeAt Go.RowKit

/-- A type. -/
structure Ty where
  sec : Bool
  len : Int
deriving DecidableEq
/-- A signature. -/
structure Sg where
  name : List UInt8
  ps : List Ty
  sec : Bool
deriving DecidableEq

def lab (b : Bool) : List UInt8 := if b then [115, 101, 99] else [112, 117, 98]
/-- A parameter in a line. -/
def tyT (t : Ty) : List UInt8 := 32 :: lab t.sec ++ (if 0 < t.len then Lib.decDigits t.len.toNat else [])
/-- The end of a line. -/
def endT (b : Bool) : List UInt8 := [32, 58, 32] ++ lab b ++ [10]
/-- A signature's line. -/
def lineT (x : Sg) : List UInt8 := x.name ++ x.ps.flatMap tyT ++ endT x.sec
/-- All lines. -/
def linesT (l : List Sg) : List UInt8 := l.flatMap lineT
def tyOk (t : Ty) : Bool := decide (0 ≤ t.len) && decide (t.len ≤ 16)
/-- A text up to a byte, and what is behind it. -/
def cutB (b : UInt8) : List UInt8 → List UInt8 × List UInt8
  | [] => ([], [])
  | c :: l => if c = b then ([], l) else (c :: (cutB b l).1, (cutB b l).2)
/-- May a signature be? -/
def mayB (x : Sg) : Bool := isName (cutB 46 x.name).1 && (isName (cutB 46 x.name).2 && (decide (x.ps.length ≤ 6) && x.ps.all tyOk))
/-- Has no name come twice? -/
def onceB : List Sg → Bool
  | [] => true
  | x :: l => !(l.any fun y => y.name == x.name) && onceB l
/-- The text of a list. -/
def textR (l : List Sg) : List UInt8 × Int := if l.all mayB then (if onceB l then (linesT l, 0) else ([], 9)) else ([], 6)

theorem cutB_none {b : UInt8} : ∀ {l : List UInt8}, b ∉ l → cutB b l = (l, [])
  | [], _ => rfl
  | c :: l, h => by
    have hc : ¬ c = b := fun e => h (by simp [e])
    have hl := cutB_none (b := b) (l := l) fun e => h (by simp [e])
    rw [cutB, if_neg hc, hl]
theorem cutB_some {b : UInt8} : ∀ {l r : List UInt8}, b ∉ l → cutB b (l ++ b :: r) = (l, r)
  | [], r, _ => by rw [List.nil_append, cutB, if_pos rfl]
  | c :: l, r, h => by
    have hc : ¬ c = b := fun e => h (by simp [e])
    have hl := cutB_some (b := b) (l := l) (r := r) fun e => h (by simp [e])
    rw [List.cons_append, cutB, if_neg hc, hl]
theorem cutB_len {b : UInt8} : ∀ (l : List UInt8), (cutB b l).1.length ≤ l.length ∧ (cutB b l).2.length ≤ l.length ∧ (l ≠ [] → (cutB b l).2.length < l.length)
  | [] => ⟨Nat.le_refl _, Nat.le_refl _, fun h => absurd rfl h⟩
  | c :: l => by
    have := cutB_len (b := b) l
    rw [cutB]
    split
    · simp
    · simp only [List.length_cons]; exact ⟨by omega, by omega, fun _ => by omega⟩
theorem cutB_lib (b : UInt8) (l : List UInt8) : (Lib.cut l [b]).1 = (cutB b l).1 ∧ (Lib.cut l [b]).2.1 = (cutB b l).2 := by
  have key : ∀ l : List UInt8, (Lib.index l [b] = -1 ∧ cutB b l = (l, [])) ∨ (∃ k : Nat, Lib.index l [b] = (k : Int) ∧ cutB b l = (l.take k, l.drop (k + 1))) := by
    intro l
    induction l with
    | nil => left; exact ⟨rfl, rfl⟩
    | cons c l ih =>
      by_cases hc : c = b
      · right
        refine ⟨0, ?_, ?_⟩
        · rw [Lib.index, if_pos (by simp [hc])]; rfl
        · rw [cutB, if_pos hc]; rfl
      · have hp : ¬ ([b].isPrefixOf (c :: l) = true) := by simp [List.isPrefixOf]; exact fun e => hc e.symm
        rcases ih with ⟨h1, h2⟩ | ⟨k, h1, h2⟩
        · left
          exact ⟨by rw [Lib.index, if_neg hp, h1]; rfl, by rw [cutB, if_neg hc, h2]⟩
        · right
          refine ⟨k + 1, ?_, ?_⟩
          · have hk : ¬ ((Lib.index l [b] == -1) = true) := by rw [h1]; simp
            rw [Lib.index, if_neg hp, if_neg hk, h1]; omega
          · rw [cutB, if_neg hc, h2]; rfl
  rcases key l with ⟨h1, h2⟩ | ⟨k, h1, h2⟩
  · rw [Lib.cut, if_neg (by omega), h2]; exact ⟨rfl, rfl⟩
  · rw [Lib.cut, if_pos (by omega), h2, h1]; exact ⟨rfl, rfl⟩
end Go.Proofs.YtpagbhgnkbbdjaaGreatDoor.Sh

/- HOW SIGNATURES LIE IN MEMORY; label. -/
namespace Go.Proofs.YtpagbhgnkbbdjaaGreatDoor.Sh
open Go.ChangeShapes Go.WideShapes Go.ChangeAt Go.RowKit

theorem Kind.row_at {α : Type} (K : Kind α) {w : World} {S : Nat → Prop} : ∀ {l : List α} {a : Option Addr}, K.row w S a l → ∀ (k : Nat) (x : α), l[k]? = some x →
    ∃ b o cs, a = some ⟨b, o, none⟩ ∧ S b ∧ (∀ j u, cs[j]? = some u → w.cell? ⟨b, o + k * K.n + j, none⟩ = some u) ∧ K.C w S cs x
  | [], _, _, _, _, h => by simp at h
  | y :: l, a, hr, 0, x, h => by
    obtain ⟨b, o, cs, rfl, hS, hc, hC, _⟩ := hr
    have : y = x := by simpa using h
    subst this
    exact ⟨b, o, cs, rfl, hS, fun j u hj => by rw [Nat.zero_mul, Nat.add_zero]; exact hc j u hj, hC⟩
  | y :: l, a, hr, k + 1, x, h => by
    obtain ⟨b, o, cs, rfl, hS, hc, hC, hr⟩ := hr
    obtain ⟨b', o', cs', e, hS', hc', hC'⟩ := Kind.row_at K hr k x (by simpa using h)
    have e' : b' = b ∧ o' = o + K.n := by simpa [eq_comm] using e
    obtain ⟨rfl, rfl⟩ := e'
    refine ⟨b', o, cs', rfl, hS', fun j u hj => ?_, hC'⟩
    have := hc' j u hj
    rw [show o + K.n + k * K.n + j = o + (k + 1) * K.n + j by rw [Nat.succ_mul]; omega] at this
    exact this

/-- Types. -/
def kTy : Kind Ty where
  n := 2
  C := fun _ _ cs t => cs = [.bool t.sec, .int .i64 t.len]
  len := fun h => by rw [h]; rfl
  one := fun h => by rw [h]; simp [Value.oneCell']
  mono := fun h _ => h
/-- Signatures. -/
def kSg : Kind Sg where
  n := 3
  C := fun w S cs x => ∃ a c, cs = [.string (bs x.name), .slice a x.ps.length c, .bool x.sec] ∧ x.ps.length ≤ c ∧ kTy.row w S a x.ps
  len := fun h => by obtain ⟨a, c, rfl, _⟩ := h; rfl
  one := fun h => by obtain ⟨a, c, rfl, _⟩ := h; simp [Value.oneCell']
  mono := fun h hg => by obtain ⟨a, c, rfl, hc, hr⟩ := h; exact ⟨a, c, rfl, hc, kTy.row_mono (by decide) hr hg⟩
/-- The value of a signature. -/
def SgV (w : World) (S : Nat → Prop) (v : Value) (x : Sg) : Prop := ∃ a c, v = .agg #[.string (bs x.name), .slice a x.ps.length c, .bool x.sec] ∧ x.ps.length ≤ c ∧ kTy.row w S a x.ps

/-- What is known of a row of types at a place. -/
theorem ty_at {w : World} {S : Nat → Prop} {a : Option Addr} {l : List Ty} (h : kTy.row w S a l) (k : Nat) (hk : k < l.length) :
    ∃ b o, a = some ⟨b, o, none⟩ ∧ S b ∧ b < w.heap.size ∧ w.cell? ⟨b, o + k * 2, none⟩ = some (.bool l[k].sec) ∧ w.cell? ⟨b, o + k * 2 + 1, none⟩ = some (.int .i64 l[k].len) := by
  obtain ⟨b, o, cs, rfl, hS, hc, rfl⟩ := kTy.row_at h k l[k] (List.getElem?_eq_getElem hk)
  have h0 := hc 0 _ rfl
  have h1 := hc 1 _ rfl
  exact ⟨b, o, rfl, hS, World.block_lt_of_cell? w _ h0, h0, h1⟩
/-- What is known of a row of signatures at a place. -/
theorem sg_at {w : World} {S : Nat → Prop} {a : Option Addr} {l : List Sg} (h : kSg.row w S a l) (k : Nat) (hk : k < l.length) :
    ∃ b o pa pc, a = some ⟨b, o, none⟩ ∧ S b ∧ b < w.heap.size ∧ w.cell? ⟨b, o + k * 3, none⟩ = some (.string (bs l[k].name)) ∧ w.cell? ⟨b, o + k * 3 + 1, none⟩ = some (.slice pa l[k].ps.length pc) ∧ w.cell? ⟨b, o + k * 3 + 2, none⟩ = some (.bool l[k].sec) ∧
      l[k].ps.length ≤ pc ∧ kTy.row w S pa l[k].ps := by
  obtain ⟨b, o, cs, rfl, hS, hc, pa, pc, rfl, hpc, hr⟩ := kSg.row_at h k l[k] (List.getElem?_eq_getElem hk)
  have h0 := hc 0 _ rfl
  have h1 := hc 1 _ rfl
  have h2 := hc 2 _ rfl
  exact ⟨b, o, pa, pc, rfl, hS, World.block_lt_of_cell? w _ h0, h0, h1, h2, hpc, hr⟩

end Go.Proofs.YtpagbhgnkbbdjaaGreatDoor.Sh
