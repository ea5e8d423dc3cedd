/- WHAT UNITS SHOW AS, in plain Lean: nodes, or that there are none. -/
import Derived.Test.YtlagadofiahijaaDoorSNd
import Derived.Lib.ItoaNum
namespace Go.Proofs.YtlagadofiahijaaDoor.Sh
open Go.ChangeShapes Go.WideShapes Go.ChangeAt Go.RowKit

def lf (s : List UInt8) : Nd := .mk false s [] 0
def ls (l : List Nd) : Nd := .mk true [] l 0
def fm (s : List UInt8) (l : List Nd) : Nd := ls (lf s :: l)
def shName (s : List UInt8) : Option Nd := if isName s then some (lf s) else none
def shLab (b : Bool) : Nd := lf (lab b)
def shNum (n lo hi : Int) : Option Nd := if lo ≤ n ∧ n ≤ hi then some (lf (Lib.decDigits n.toNat)) else none
def eachO {α β : Type} (f : α → Option β) : List α → Option (List β)
  | [] => some []
  | x :: l => (f x).bind fun y => (eachO f l).map (y :: ·)
/-- The sign of an op. -/
def signT (op : Int) : List UInt8 :=
  if op = 1 then [43] else if op = 2 then [45] else if op = 3 then [42] else if op = 4 then [38] else if op = 5 then [124] else
  if op = 6 then [94] else if op = 7 then [60, 60] else if op = 8 then [62, 62] else if op = 9 then [60] else if op = 10 then [61, 61] else []
def isFullB (s : List UInt8) : Bool := isName (cutB 46 s).1 && (!(s.contains 46) || isName (cutB 46 s).2)
mutual
def shE : Ex → Option Nd
  | .mk kind n op name l =>
    if kind = 1 then (if op = 0 ∧ name = [] ∧ l = [] then some (lf (Lib.decDigits n)) else none)
    else if kind = 2 then (if n = 0 ∧ op = 0 ∧ l = [] then shName name else none)
    else if kind = 3 then (if n = 0 ∧ op = 0 ∧ l.length = 1 then (shName name).bind fun a => (shEs l).map fun b => fm [97, 116] (a :: b) else none)
    else if kind = 4 then (if signT op ≠ [] ∧ n = 0 ∧ name = [] ∧ l.length = 2 then (shEs l).map (fm (signT op)) else none)
    else if kind = 5 then (if n = 0 ∧ op = 0 ∧ name = [] ∧ l.length = 3 then (shEs l).map (fm [115, 101, 108]) else none)
    else if kind = 6 then (if n = 0 ∧ op = 0 ∧ isFullB name = true ∧ l.length ≤ 6 then (shEs l).map fun b => fm [99, 97, 108, 108] (lf name :: b) else none)
    else none
def shEs : List Ex → Option (List Nd)
  | [] => some []
  | x :: l => (shE x).bind fun y => (shEs l).map (y :: ·)
end
theorem shEs_each : ∀ l : List Ex, shEs l = eachO shE l
  | [] => by rw [shEs, eachO]
  | x :: l => by rw [shEs, eachO, shEs_each l]
mutual
/-- How much an expression is. -/
def exW : Ex → Nat
  | .mk _ _ _ name l => 1 + name.length + exWs l
def exWs : List Ex → Nat
  | [] => 0
  | x :: l => exW x + exWs l
end
mutual
/-- Are all numbers those of 32 bits? -/
def exOk : Ex → Prop
  | .mk _ n _ _ l => n ≤ 4294967295 ∧ exOks l
def exOks : List Ex → Prop
  | [] => True
  | x :: l => exOk x ∧ exOks l
end
theorem exOk_mem : ∀ (l : List Ex) (x : Ex), x ∈ l → exOks l → exOk x
  | [], _, h, _ => by cases h
  | a :: l, x, h, hl => by
    rw [exOks] at hl
    rcases List.mem_cons.1 h with rfl | h
    · exact hl.1
    · exact exOk_mem l x h hl.2
theorem eachO_snoc {α β : Type} (f : α → Option β) : ∀ (l : List α) (x : α), eachO f (l ++ [x]) = (eachO f l).bind fun ys => (f x).map fun y => ys ++ [y]
  | [], x => by simp [eachO]; cases f x <;> rfl
  | a :: l, x => by
    rw [List.cons_append, eachO, eachO, eachO_snoc f l x]
    cases f a with
    | none => rfl
    | some b =>
      cases eachO f l with
      | none => rfl
      | some ys => cases f x <;> rfl
theorem eachO_take {α β : Type} (f : α → Option β) (l : List α) (k : Nat) (hk : k < l.length) : eachO f (l.take (k + 1)) = (eachO f (l.take k)).bind fun ys => (f l[k]).map fun y => ys ++ [y] := by
  rw [List.take_succ_eq_append_getElem hk, eachO_snoc]
theorem eachO_none {α β : Type} (f : α → Option β) : ∀ (l : List α) (x : α), x ∈ l → f x = none → eachO f l = none
  | [], _, h, _ => by cases h
  | a :: l, x, h, hx => by
    rw [eachO]
    rcases List.mem_cons.1 h with rfl | h
    · rw [hx]; rfl
    · rw [eachO_none f l x h hx]; cases f a <;> rfl
theorem eachO_len {α β : Type} (f : α → Option β) : ∀ (l : List α) (ys : List β), eachO f l = some ys → ys.length = l.length
  | [], ys, h => by rw [eachO] at h; cases h; rfl
  | a :: l, ys, h => by
    rw [eachO] at h
    cases ha : f a with
    | none => rw [ha] at h; cases h
    | some b =>
      cases hl : eachO f l with
      | none => rw [ha, hl] at h; cases h
      | some zs => rw [ha, hl] at h; cases h; simp [eachO_len f l zs hl]
theorem exW_mem : ∀ (l : List Ex) (x : Ex), x ∈ l → exW x ≤ exWs l
  | [], _, h => by cases h
  | a :: l, x, h => by
    rw [exWs]
    rcases List.mem_cons.1 h with rfl | h
    · omega
    · have := exW_mem l x h; omega
theorem exWs_len : ∀ (l : List Ex), l.length ≤ exWs l
  | [] => by simp
  | .mk k n o m l' :: l => by rw [exWs, exW, List.length_cons]; have := exWs_len l; omega


mutual
def ndC (w : World) (S : Nat → Prop) : List Value → Nd → Prop
  | cs, .mk il wd ks p => ∃ a c, cs = [.bool il, .string (bs wd), .slice a ks.length c, .int .i64 p] ∧ ks.length ≤ c ∧ ndR w S a ks
def ndR (w : World) (S : Nat → Prop) : Option Addr → List Nd → Prop
  | _, [] => True
  | a, x :: l => ∃ b o cs, a = some ⟨b, o, none⟩ ∧ S b ∧ (∀ j u, cs[j]? = some u → w.cell? ⟨b, o + j, none⟩ = some u) ∧ ndC w S cs x ∧ ndR w S (some ⟨b, o + 4, none⟩) l
end
theorem ndC_len {w : World} {S : Nat → Prop} {cs : List Value} {x : Nd} (h : ndC w S cs x) : cs.length = 4 := by
  cases x with
  | mk il wd ks p =>
    rw [ndC] at h
    obtain ⟨a, c, rfl, _⟩ := h
    rfl
theorem ndC_one {w : World} {S : Nat → Prop} {cs : List Value} {x : Nd} (h : ndC w S cs x) : ∀ u ∈ cs, u.oneCell' = true := by
  cases x with
  | mk il wd ks p =>
    rw [ndC] at h
    obtain ⟨a, c, rfl, _⟩ := h
    simp [Value.oneCell']
mutual
theorem ndC_mono {w w' : World} {S T : Nat → Prop} (hg : Goes w w' S T) : ∀ {x : Nd} {cs : List Value}, ndC w S cs x → ndC w' T cs x
  | .mk il wd ks p, cs, h => by
    rw [ndC] at h ⊢
    obtain ⟨a, c, rfl, hc, hr⟩ := h
    exact ⟨a, c, rfl, hc, ndR_mono hg hr⟩
theorem ndR_mono {w w' : World} {S T : Nat → Prop} (hg : Goes w w' S T) : ∀ {l : List Nd} {a : Option Addr}, ndR w S a l → ndR w' T a l
  | [], _, _ => by rw [ndR]; trivial
  | x :: l, a, h => by
    rw [ndR] at h ⊢
    obtain ⟨b, o, cs, rfl, hS, hc, hC, hr⟩ := h
    have hl := ndC_len hC
    have hlt : b < w.heap.size := World.block_lt_of_cell? w _ (hc 0 cs[0] (List.getElem?_eq_getElem (by omega)))
    obtain ⟨hT, he⟩ := hg b hS hlt
    exact ⟨b, o, cs, rfl, hT, fun j u hj => by rw [World.cell?_of_block he]; exact hc j u hj, ndC_mono hg hC, ndR_mono hg hr⟩
end
def kNd : Kind Nd where
  n := 4
  C := ndC
  len := ndC_len
  one := ndC_one
  mono := fun h hg => ndC_mono hg h
theorem ndR_row (w : World) (S : Nat → Prop) : ∀ (l : List Nd) (a : Option Addr), ndR w S a l ↔ kNd.row w S a l
  | [], a => by rw [ndR]; rfl
  | x :: l, a => by
    rw [ndR]
    constructor
    · rintro ⟨b, o, cs, h1, h2, h3, h4, h5⟩
      exact ⟨b, o, cs, h1, h2, h3, h4, (ndR_row w S l _).1 h5⟩
    · rintro ⟨b, o, cs, h1, h2, h3, h4, h5⟩
      exact ⟨b, o, cs, h1, h2, h3, h4, (ndR_row w S l _).2 h5⟩
/-- The value of a node. -/
def NdV (w : World) (S : Nat → Prop) (v : Value) : Nd → Prop
  | .mk il wd ks p => ∃ a c, v = .agg #[.bool il, .string (bs wd), .slice a ks.length c, .int .i64 p] ∧ ks.length ≤ c ∧ kNd.row w S a ks
theorem NdV.mono {w w' : World} {S T : Nat → Prop} {v : Value} {x : Nd} (h : NdV w S v x) (hg : Goes w w' S T) : NdV w' T v x := by
  cases x with
  | mk il wd ks p =>
    obtain ⟨a, c, rfl, hc, hr⟩ := h
    exact ⟨a, c, rfl, hc, kNd.row_mono (by decide) hr hg⟩
theorem NdV.cells {w : World} {S : Nat → Prop} {v : Value} {x : Nd} (h : NdV w S v x) : ∃ cs : List Value, v = .agg cs.toArray ∧ cs.length = 4 ∧ kNd.C w S cs x := by
  cases x with
  | mk il wd ks p =>
    obtain ⟨a, c, rfl, hc, hr⟩ := h
    exact ⟨_, rfl, rfl, by show ndC _ _ _ _; rw [ndC]; exact ⟨a, c, rfl, hc, (ndR_row w S ks a).2 hr⟩⟩

end Go.Proofs.YtlagadofiahijaaDoor.Sh
