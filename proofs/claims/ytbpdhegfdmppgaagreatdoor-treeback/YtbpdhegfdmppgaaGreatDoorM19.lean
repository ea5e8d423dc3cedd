/- Texts of this proof, put together: FRow, SNd, SMath, SSm, SLeaf, SHeavyM. -/
import Derived.Test.YtbpdhegfdmppgaaGreatDoorM18
import Derived.Lib.Hide
import Derived.Laws.Tables
import Derived.Laws.ResultCell
import Derived.Lib.ItoaNum

/- WHOLE STRUCTS: read out of their blocks as results; stored over. -/
namespace Go.Proofs.YtbpdhegfdmppgaaGreatDoor.Sh
open Go.ChangeShapes Go.WideShapes Go.ChangeAt Go.RowKit

theorem setRow_kept {M : Nat → Prop} {w w3 : World} {b : Nat} (cs : Array Value) (h : Kept M w w3) (hw : w.heap.size ≤ b) : Kept M w (w3.setRow b cs) :=
  ⟨h.os, h.tape, h.output, by simpa [World.setRow] using h.size, fun i hi hm => by
    have : (w3.setRow b cs).heap[i]? = w3.heap[i]? := by simp [World.setRow, Array.getElem?_modify]; intro e; omega
    rw [this]; exact h.block i hi hm⟩
theorem setRow_in (w : World) (b : Nat) (cs : Array Value) : Kept (fun k => k = b) w (w.setRow b cs) :=
  ⟨rfl, rfl, rfl, by simp [World.setRow], fun i hi hm => by simp [World.setRow, Array.getElem?_modify]; intro e; exact absurd e.symm hm⟩
theorem setRow_at {w : World} {b : Nat} {old cs : Array Value} {t : TypeId} {f : Nat × Nat} (h : w.heap[b]? = some (.cells old t f)) : (w.setRow b cs).heap[b]? = some (.cells cs t f) := by
  simp [World.setRow, Array.getElem?_modify, h]
/-- The result is read out of its block. -/
theorem results_row {fn : Func} {tmps : Array Value} {W : World} {b K : Nat} {ty : TypeId} {cs : Array Value} (hr : fn.results = #[ResultVar.cell K ty]) (ht : tmps[K]?.getD undef = .pointer (some ⟨b, 0, none⟩))
    (hl : (loadVar ty ⟨b, 0, none⟩).run Tryz.prog W = .ok (.agg cs) W) : (results fn tmps).run Tryz.prog W = .ok (.agg cs) W := by
  simp only [results, hr]
  simp [ht, asAddr, hl]
theorem set_over {w : World} {b o : Nat} {v : Value} {c : Array Value} {e : TypeId} {f : Nat × Nat} (h : w.heap[b]? = some (.cells c e f)) : (w.setCell ⟨b, o, none⟩ v).heap[b]? = some (.cells (c.setIfInBounds o v) e f) := setCell_at h
theorem bl_then {a b c : World} (h : Below a.heap.size a b) (k : Below b.heap.size b c) : Below a.heap.size a c := Kept.to_below (Below.to_kept (Below.kept h (fun _ => False)) k) (fun _ h => False.elim h)
theorem bl_alloc {a b : World} (h : Below a.heap.size a b) (o : Obj) : Below a.heap.size a (b.alloc o) := bl_then h ((Below.refl _ _).alloc (Nat.le_refl _) o)
theorem bl_set {a b : World} (h : Below a.heap.size a b) (k o : Nat) (v : Value) (hk : a.heap.size ≤ k) : Below a.heap.size a (b.setCell ⟨k, o, none⟩ v) := Kept.to_below ((Below.kept h (fun _ => False)).set_new k o v hk) (fun _ h => False.elim h)
theorem bs_tl (a : List UInt8) : (bs a).toList = a := by rw [ByteArray.toList_eq, bs_list]
end Go.Proofs.YtbpdhegfdmppgaaGreatDoor.Sh

/- UNITS AND NODES, in plain Lean and in memory. -/
namespace Go.Proofs.YtbpdhegfdmppgaaGreatDoor.Sh
open Go.ChangeShapes Go.WideShapes Go.ChangeAt Go.RowKit

inductive Nd where
  | mk (isList : Bool) (word : List UInt8) (kids : List Nd) (pos : Int)
inductive Ex where
  | mk (kind : Int) (n : Nat) (op : Int) (name : List UInt8) (l : List Ex)
inductive Sm where
  | mk (kind : Int) (name : List UInt8) (sec : Bool) (len fr to : Int) (ix e : Ex) (body els : List Sm)
structure Pa where
  name : List UInt8
  sec : Bool
  len : Int
structure Fu where
  name : List UInt8
  params : List Pa
  sec : Bool
  body : List Sm
  result : Ex
structure Un where
  name : List UInt8
  imports : List (List UInt8)
  funcs : List Fu

def Ex.none : Ex := .mk 0 0 0 [] []

mutual
def exC (w : World) (S : Nat → Prop) : List Value → Ex → Prop
  | cs, .mk kind n op name l => ∃ a c, cs = [.int .i64 kind, .int .u32 n, .int .i64 op, .string (bs name), .slice a l.length c] ∧ l.length ≤ c ∧ exR w S a l
def exR (w : World) (S : Nat → Prop) : Option Addr → List Ex → Prop
  | _, [] => True
  | a, x :: l => ∃ b o cs, a = some ⟨b, o, none⟩ ∧ S b ∧ (∀ j u, cs[j]? = some u → w.cell? ⟨b, o + j, none⟩ = some u) ∧ exC w S cs x ∧ exR w S (some ⟨b, o + 5, none⟩) l
end
theorem exC_len {w : World} {S : Nat → Prop} {cs : List Value} {x : Ex} (h : exC w S cs x) : cs.length = 5 := by
  cases x with
  | mk kind n op name l =>
    rw [exC] at h
    obtain ⟨a, c, rfl, _⟩ := h
    rfl
theorem exC_one {w : World} {S : Nat → Prop} {cs : List Value} {x : Ex} (h : exC w S cs x) : ∀ u ∈ cs, u.oneCell' = true := by
  cases x with
  | mk kind n op name l =>
    rw [exC] at h
    obtain ⟨a, c, rfl, _⟩ := h
    simp [Value.oneCell']
mutual
theorem exC_mono {w w' : World} {S T : Nat → Prop} (hg : Goes w w' S T) : ∀ {x : Ex} {cs : List Value}, exC w S cs x → exC w' T cs x
  | .mk kind n op name l, cs, h => by
    rw [exC] at h ⊢
    obtain ⟨a, c, rfl, hc, hr⟩ := h
    exact ⟨a, c, rfl, hc, exR_mono hg hr⟩
theorem exR_mono {w w' : World} {S T : Nat → Prop} (hg : Goes w w' S T) : ∀ {l : List Ex} {a : Option Addr}, exR w S a l → exR w' T a l
  | [], _, _ => by rw [exR]; trivial
  | x :: l, a, h => by
    rw [exR] at h ⊢
    obtain ⟨b, o, cs, rfl, hS, hc, hC, hr⟩ := h
    have hl := exC_len hC
    have hlt : b < w.heap.size := World.block_lt_of_cell? w _ (hc 0 cs[0] (List.getElem?_eq_getElem (by omega)))
    obtain ⟨hT, he⟩ := hg b hS hlt
    exact ⟨b, o, cs, rfl, hT, fun j u hj => by rw [World.cell?_of_block he]; exact hc j u hj, exC_mono hg hC, exR_mono hg hr⟩
end
def kEx : Kind Ex where
  n := 5
  C := exC
  len := exC_len
  one := exC_one
  mono := fun h hg => exC_mono hg h
theorem exR_row (w : World) (S : Nat → Prop) : ∀ (l : List Ex) (a : Option Addr), exR w S a l ↔ kEx.row w S a l
  | [], a => by rw [exR]; rfl
  | x :: l, a => by
    rw [exR]
    constructor
    · rintro ⟨b, o, cs, h1, h2, h3, h4, h5⟩
      exact ⟨b, o, cs, h1, h2, h3, h4, (exR_row w S l _).1 h5⟩
    · rintro ⟨b, o, cs, h1, h2, h3, h4, h5⟩
      exact ⟨b, o, cs, h1, h2, h3, h4, (exR_row w S l _).2 h5⟩
/-- The value of an expression. -/
def ExV (w : World) (S : Nat → Prop) (v : Value) : Ex → Prop
  | .mk kind n op name l => ∃ a c, v = .agg #[.int .i64 kind, .int .u32 n, .int .i64 op, .string (bs name), .slice a l.length c] ∧ l.length ≤ c ∧ exR w S a l
theorem ExV.mono {w w' : World} {S T : Nat → Prop} {v : Value} {x : Ex} (h : ExV w S v x) (hg : Goes w w' S T) : ExV w' T v x := by
  cases x with
  | mk kind n op name l =>
    obtain ⟨a, c, rfl, hc, hr⟩ := h
    exact ⟨a, c, rfl, hc, exR_mono hg hr⟩

mutual
def smC (w : World) (S : Nat → Prop) : List Value → Sm → Prop
  | cs, .mk kind name sec len fr to (.mk k1 n1 o1 m1 l1) (.mk k2 n2 o2 m2 l2) body els => ∃ a1 c1 a2 c2 a3 c3 a4 c4, cs = [.int .i64 kind, .string (bs name), .bool sec, .int .i64 len, .int .i64 fr, .int .i64 to, .int .i64 k1, .int .u32 n1, .int .i64 o1, .string (bs m1), .slice a1 l1.length c1, .int .i64 k2, .int .u32 n2, .int .i64 o2, .string (bs m2), .slice a2 l2.length c2, .slice a3 body.length c3, .slice a4 els.length c4] ∧
      l1.length ≤ c1 ∧ l2.length ≤ c2 ∧ body.length ≤ c3 ∧ els.length ≤ c4 ∧ exR w S a1 l1 ∧ exR w S a2 l2 ∧ smR w S a3 body ∧ smR w S a4 els
def smR (w : World) (S : Nat → Prop) : Option Addr → List Sm → Prop
  | _, [] => True
  | a, x :: l => ∃ b o cs, a = some ⟨b, o, none⟩ ∧ S b ∧ (∀ j u, cs[j]? = some u → w.cell? ⟨b, o + j, none⟩ = some u) ∧ smC w S cs x ∧ smR w S (some ⟨b, o + 18, none⟩) l
end
theorem smC_mk (w : World) (S : Nat → Prop) (cs : List Value) (kind : Int) (name : List UInt8) (sec : Bool) (len fr to : Int) (k1 : Int) (n1 : Nat) (o1 : Int) (m1 : List UInt8) (l1 : List Ex) (k2 : Int) (n2 : Nat) (o2 : Int) (m2 : List UInt8) (l2 : List Ex) (body els : List Sm) :
    smC w S cs (.mk kind name sec len fr to (.mk k1 n1 o1 m1 l1) (.mk k2 n2 o2 m2 l2) body els) = ∃ a1 c1 a2 c2 a3 c3 a4 c4, cs = [.int .i64 kind, .string (bs name), .bool sec, .int .i64 len, .int .i64 fr, .int .i64 to, .int .i64 k1, .int .u32 n1, .int .i64 o1, .string (bs m1), .slice a1 l1.length c1, .int .i64 k2, .int .u32 n2, .int .i64 o2, .string (bs m2), .slice a2 l2.length c2, .slice a3 body.length c3, .slice a4 els.length c4] ∧
      l1.length ≤ c1 ∧ l2.length ≤ c2 ∧ body.length ≤ c3 ∧ els.length ≤ c4 ∧ exR w S a1 l1 ∧ exR w S a2 l2 ∧ smR w S a3 body ∧ smR w S a4 els := by rw [smC]
theorem smC_len {w : World} {S : Nat → Prop} {cs : List Value} {x : Sm} (h : smC w S cs x) : cs.length = 18 := by
  obtain ⟨kind, name, sec, len, fr, to, ⟨k1, n1, o1, m1, l1⟩, ⟨k2, n2, o2, m2, l2⟩, body, els⟩ := x
  rw [smC_mk] at h
  obtain ⟨a1, c1, a2, c2, a3, c3, a4, c4, rfl, _⟩ := h
  rfl
theorem smC_one {w : World} {S : Nat → Prop} {cs : List Value} {x : Sm} (h : smC w S cs x) : ∀ u ∈ cs, u.oneCell' = true := by
  obtain ⟨kind, name, sec, len, fr, to, ⟨k1, n1, o1, m1, l1⟩, ⟨k2, n2, o2, m2, l2⟩, body, els⟩ := x
  rw [smC_mk] at h
  obtain ⟨a1, c1, a2, c2, a3, c3, a4, c4, rfl, _⟩ := h
  simp [Value.oneCell']
mutual
theorem smC_mono {w w' : World} {S T : Nat → Prop} (hg : Goes w w' S T) : ∀ {x : Sm} {cs : List Value}, smC w S cs x → smC w' T cs x
  | .mk kind name sec len fr to (.mk k1 n1 o1 m1 l1) (.mk k2 n2 o2 m2 l2) body els, cs, h => by
    rw [smC_mk] at h ⊢
    obtain ⟨a1, c1, a2, c2, a3, c3, a4, c4, rfl, h1, h2, h3, h4, r1, r2, r3, r4⟩ := h
    exact ⟨a1, c1, a2, c2, a3, c3, a4, c4, rfl, h1, h2, h3, h4, exR_mono hg r1, exR_mono hg r2, smR_mono hg r3, smR_mono hg r4⟩
theorem smR_mono {w w' : World} {S T : Nat → Prop} (hg : Goes w w' S T) : ∀ {l : List Sm} {a : Option Addr}, smR w S a l → smR w' T a l
  | [], _, _ => by rw [smR]; trivial
  | x :: l, a, h => by
    rw [smR] at h ⊢
    obtain ⟨b, o, cs, rfl, hS, hc, hC, hr⟩ := h
    have hl := smC_len hC
    have hlt : b < w.heap.size := World.block_lt_of_cell? w _ (hc 0 cs[0] (List.getElem?_eq_getElem (by omega)))
    obtain ⟨hT, he⟩ := hg b hS hlt
    exact ⟨b, o, cs, rfl, hT, fun j u hj => by rw [World.cell?_of_block he]; exact hc j u hj, smC_mono hg hC, smR_mono hg hr⟩
end
def kSm : Kind Sm where
  n := 18
  C := smC
  len := smC_len
  one := smC_one
  mono := fun h hg => smC_mono hg h
theorem smR_row (w : World) (S : Nat → Prop) : ∀ (l : List Sm) (a : Option Addr), smR w S a l ↔ kSm.row w S a l
  | [], a => by rw [smR]; rfl
  | x :: l, a => by
    rw [smR]
    constructor
    · rintro ⟨b, o, cs, h1, h2, h3, h4, h5⟩
      exact ⟨b, o, cs, h1, h2, h3, h4, (smR_row w S l _).1 h5⟩
    · rintro ⟨b, o, cs, h1, h2, h3, h4, h5⟩
      exact ⟨b, o, cs, h1, h2, h3, h4, (smR_row w S l _).2 h5⟩
/-- The value of a statement. -/
def SmV (w : World) (S : Nat → Prop) (v : Value) (x : Sm) : Prop := ∃ cs : List Value, v = .agg cs.toArray ∧ smC w S cs x

def kPa : Kind Pa where
  n := 3
  C := fun _ _ cs x => cs = [.string (bs x.name), .bool x.sec, .int .i64 x.len]
  len := fun h => by rw [h]; rfl
  one := fun h => by rw [h]; simp [Value.oneCell']
  mono := fun h _ => h
def PaV (w : World) (S : Nat → Prop) (v : Value) (x : Pa) : Prop := ∃ cs : List Value, v = .agg cs.toArray ∧ kPa.C w S cs x
def fuC (w : World) (S : Nat → Prop) (cs : List Value) : Fu → Prop
  | ⟨name, params, sec, body, .mk k n o m l⟩ => ∃ a1 c1 a2 c2 a3 c3, cs = [.string (bs name), .slice a1 params.length c1, .bool sec, .slice a2 body.length c2, .int .i64 k, .int .u32 n, .int .i64 o, .string (bs m), .slice a3 l.length c3] ∧
      params.length ≤ c1 ∧ body.length ≤ c2 ∧ l.length ≤ c3 ∧ kPa.row w S a1 params ∧ smR w S a2 body ∧ exR w S a3 l
def kFu : Kind Fu where
  n := 9
  C := fuC
  len := fun {w S cs x} h => by
    obtain ⟨name, params, sec, body, k, n, o, m, l⟩ := x
    obtain ⟨a1, c1, a2, c2, a3, c3, rfl, _⟩ := h
    rfl
  one := fun {w S cs x} h => by
    obtain ⟨name, params, sec, body, k, n, o, m, l⟩ := x
    obtain ⟨a1, c1, a2, c2, a3, c3, rfl, _⟩ := h
    simp [Value.oneCell']
  mono := fun {w w' S T cs x} h hg => by
    obtain ⟨name, params, sec, body, k, n, o, m, l⟩ := x
    obtain ⟨a1, c1, a2, c2, a3, c3, rfl, h1, h2, h3, r1, r2, r3⟩ := h
    exact ⟨a1, c1, a2, c2, a3, c3, rfl, h1, h2, h3, kPa.row_mono (by show 0 < 3; omega) r1 hg, smR_mono hg r2, exR_mono hg r3⟩
def FuV (w : World) (S : Nat → Prop) (v : Value) (x : Fu) : Prop := ∃ cs : List Value, v = .agg cs.toArray ∧ fuC w S cs x
def UnV (w : World) (S : Nat → Prop) (v : Value) (u : Un) : Prop := ∃ a1 c1 a2 c2, v = .agg #[.string (bs u.name), .slice a1 u.imports.length c1, .slice a2 u.funcs.length c2] ∧ u.imports.length ≤ c1 ∧ u.funcs.length ≤ c2 ∧ kStr.row w S a1 u.imports ∧ kFu.row w S a2 u.funcs
end Go.Proofs.YtbpdhegfdmppgaaGreatDoor.Sh

/- WHAT UNITS SHOW AS, in plain Lean: nodes, or that there are none. -/
namespace Go.Proofs.YtbpdhegfdmppgaaGreatDoor.Sh
open Go.ChangeShapes Go.WideShapes Go.ChangeAt Go.RowKit

def lf (s : List UInt8) : Nd := .mk false s [] 0
def ls (l : List Nd) : Nd := .mk true [] l 0
def fm (s : List UInt8) (l : List Nd) : Nd := ls (lf s :: l)
def shName (s : List UInt8) : Option Nd := if isName s then some (lf s) else none
def shLab (b : Bool) : Nd := lf (lab b)
def shNum (n lo hi : Int) : Option Nd := if lo ≤ n ∧ n ≤ hi then some (lf (Lib.decDigits n.toNat)) else none
def eachO {α β : Type} (f : α → Option β) : List α → Option (List β)
  | [] => some []
  | x :: l => (f x).bind fun y => (eachO f l).map (y :: ·)
/-- The sign of an op. -/
def signT (op : Int) : List UInt8 :=
  if op = 1 then [43] else if op = 2 then [45] else if op = 3 then [42] else if op = 4 then [38] else if op = 5 then [124] else
  if op = 6 then [94] else if op = 7 then [60, 60] else if op = 8 then [62, 62] else if op = 9 then [60] else if op = 10 then [61, 61] else []
def isFullB (s : List UInt8) : Bool := isName (cutB 46 s).1 && (!(s.contains 46) || isName (cutB 46 s).2)
mutual
def shE : Ex → Option Nd
  | .mk kind n op name l =>
    if kind = 1 then (if op = 0 ∧ name = [] ∧ l = [] then some (lf (Lib.decDigits n)) else none)
    else if kind = 2 then (if n = 0 ∧ op = 0 ∧ l = [] then shName name else none)
    else if kind = 3 then (if n = 0 ∧ op = 0 ∧ l.length = 1 then (shName name).bind fun a => (shEs l).map fun b => fm [97, 116] (a :: b) else none)
    else if kind = 4 then (if signT op ≠ [] ∧ n = 0 ∧ name = [] ∧ l.length = 2 then (shEs l).map (fm (signT op)) else none)
    else if kind = 5 then (if n = 0 ∧ op = 0 ∧ name = [] ∧ l.length = 3 then (shEs l).map (fm [115, 101, 108]) else none)
    else if kind = 6 then (if n = 0 ∧ op = 0 ∧ isFullB name = true ∧ l.length ≤ 6 then (shEs l).map fun b => fm [99, 97, 108, 108] (lf name :: b) else none)
    else none
def shEs : List Ex → Option (List Nd)
  | [] => some []
  | x :: l => (shE x).bind fun y => (shEs l).map (y :: ·)
end
theorem shEs_each : ∀ l : List Ex, shEs l = eachO shE l
  | [] => by rw [shEs, eachO]
  | x :: l => by rw [shEs, eachO, shEs_each l]
mutual
/-- How much an expression is. -/
def exW : Ex → Nat
  | .mk _ _ _ name l => 1 + name.length + exWs l
def exWs : List Ex → Nat
  | [] => 0
  | x :: l => exW x + exWs l
end
mutual
/-- Are all numbers those of 32 bits? -/
def exOk : Ex → Prop
  | .mk _ n _ _ l => n ≤ 4294967295 ∧ exOks l
def exOks : List Ex → Prop
  | [] => True
  | x :: l => exOk x ∧ exOks l
end
theorem exOk_mem : ∀ (l : List Ex) (x : Ex), x ∈ l → exOks l → exOk x
  | [], _, h, _ => by cases h
  | a :: l, x, h, hl => by
    rw [exOks] at hl
    rcases List.mem_cons.1 h with rfl | h
    · exact hl.1
    · exact exOk_mem l x h hl.2
theorem eachO_snoc {α β : Type} (f : α → Option β) : ∀ (l : List α) (x : α), eachO f (l ++ [x]) = (eachO f l).bind fun ys => (f x).map fun y => ys ++ [y]
  | [], x => by simp [eachO]; cases f x <;> rfl
  | a :: l, x => by
    rw [List.cons_append, eachO, eachO, eachO_snoc f l x]
    cases f a with
    | none => rfl
    | some b =>
      cases eachO f l with
      | none => rfl
      | some ys => cases f x <;> rfl
theorem eachO_take {α β : Type} (f : α → Option β) (l : List α) (k : Nat) (hk : k < l.length) : eachO f (l.take (k + 1)) = (eachO f (l.take k)).bind fun ys => (f l[k]).map fun y => ys ++ [y] := by
  rw [List.take_succ_eq_append_getElem hk, eachO_snoc]
theorem eachO_none {α β : Type} (f : α → Option β) : ∀ (l : List α) (x : α), x ∈ l → f x = none → eachO f l = none
  | [], _, h, _ => by cases h
  | a :: l, x, h, hx => by
    rw [eachO]
    rcases List.mem_cons.1 h with rfl | h
    · rw [hx]; rfl
    · rw [eachO_none f l x h hx]; cases f a <;> rfl
theorem eachO_len {α β : Type} (f : α → Option β) : ∀ (l : List α) (ys : List β), eachO f l = some ys → ys.length = l.length
  | [], ys, h => by rw [eachO] at h; cases h; rfl
  | a :: l, ys, h => by
    rw [eachO] at h
    cases ha : f a with
    | none => rw [ha] at h; cases h
    | some b =>
      cases hl : eachO f l with
      | none => rw [ha, hl] at h; cases h
      | some zs => rw [ha, hl] at h; cases h; simp [eachO_len f l zs hl]
theorem exW_mem : ∀ (l : List Ex) (x : Ex), x ∈ l → exW x ≤ exWs l
  | [], _, h => by cases h
  | a :: l, x, h => by
    rw [exWs]
    rcases List.mem_cons.1 h with rfl | h
    · omega
    · have := exW_mem l x h; omega
theorem exWs_len : ∀ (l : List Ex), l.length ≤ exWs l
  | [] => by simp
  | .mk k n o m l' :: l => by rw [exWs, exW, List.length_cons]; have := exWs_len l; omega


mutual
def ndC (w : World) (S : Nat → Prop) : List Value → Nd → Prop
  | cs, .mk il wd ks p => ∃ a c, cs = [.bool il, .string (bs wd), .slice a ks.length c, .int .i64 p] ∧ ks.length ≤ c ∧ ndR w S a ks
def ndR (w : World) (S : Nat → Prop) : Option Addr → List Nd → Prop
  | _, [] => True
  | a, x :: l => ∃ b o cs, a = some ⟨b, o, none⟩ ∧ S b ∧ (∀ j u, cs[j]? = some u → w.cell? ⟨b, o + j, none⟩ = some u) ∧ ndC w S cs x ∧ ndR w S (some ⟨b, o + 4, none⟩) l
end
theorem ndC_len {w : World} {S : Nat → Prop} {cs : List Value} {x : Nd} (h : ndC w S cs x) : cs.length = 4 := by
  cases x with
  | mk il wd ks p =>
    rw [ndC] at h
    obtain ⟨a, c, rfl, _⟩ := h
    rfl
theorem ndC_one {w : World} {S : Nat → Prop} {cs : List Value} {x : Nd} (h : ndC w S cs x) : ∀ u ∈ cs, u.oneCell' = true := by
  cases x with
  | mk il wd ks p =>
    rw [ndC] at h
    obtain ⟨a, c, rfl, _⟩ := h
    simp [Value.oneCell']
mutual
theorem ndC_mono {w w' : World} {S T : Nat → Prop} (hg : Goes w w' S T) : ∀ {x : Nd} {cs : List Value}, ndC w S cs x → ndC w' T cs x
  | .mk il wd ks p, cs, h => by
    rw [ndC] at h ⊢
    obtain ⟨a, c, rfl, hc, hr⟩ := h
    exact ⟨a, c, rfl, hc, ndR_mono hg hr⟩
theorem ndR_mono {w w' : World} {S T : Nat → Prop} (hg : Goes w w' S T) : ∀ {l : List Nd} {a : Option Addr}, ndR w S a l → ndR w' T a l
  | [], _, _ => by rw [ndR]; trivial
  | x :: l, a, h => by
    rw [ndR] at h ⊢
    obtain ⟨b, o, cs, rfl, hS, hc, hC, hr⟩ := h
    have hl := ndC_len hC
    have hlt : b < w.heap.size := World.block_lt_of_cell? w _ (hc 0 cs[0] (List.getElem?_eq_getElem (by omega)))
    obtain ⟨hT, he⟩ := hg b hS hlt
    exact ⟨b, o, cs, rfl, hT, fun j u hj => by rw [World.cell?_of_block he]; exact hc j u hj, ndC_mono hg hC, ndR_mono hg hr⟩
end
def kNd : Kind Nd where
  n := 4
  C := ndC
  len := ndC_len
  one := ndC_one
  mono := fun h hg => ndC_mono hg h
theorem ndR_row (w : World) (S : Nat → Prop) : ∀ (l : List Nd) (a : Option Addr), ndR w S a l ↔ kNd.row w S a l
  | [], a => by rw [ndR]; rfl
  | x :: l, a => by
    rw [ndR]
    constructor
    · rintro ⟨b, o, cs, h1, h2, h3, h4, h5⟩
      exact ⟨b, o, cs, h1, h2, h3, h4, (ndR_row w S l _).1 h5⟩
    · rintro ⟨b, o, cs, h1, h2, h3, h4, h5⟩
      exact ⟨b, o, cs, h1, h2, h3, h4, (ndR_row w S l _).2 h5⟩
/-- The value of a node. -/
def NdV (w : World) (S : Nat → Prop) (v : Value) : Nd → Prop
  | .mk il wd ks p => ∃ a c, v = .agg #[.bool il, .string (bs wd), .slice a ks.length c, .int .i64 p] ∧ ks.length ≤ c ∧ kNd.row w S a ks
theorem NdV.mono {w w' : World} {S T : Nat → Prop} {v : Value} {x : Nd} (h : NdV w S v x) (hg : Goes w w' S T) : NdV w' T v x := by
  cases x with
  | mk il wd ks p =>
    obtain ⟨a, c, rfl, hc, hr⟩ := h
    exact ⟨a, c, rfl, hc, kNd.row_mono (by decide) hr hg⟩
theorem NdV.cells {w : World} {S : Nat → Prop} {v : Value} {x : Nd} (h : NdV w S v x) : ∃ cs : List Value, v = .agg cs.toArray ∧ cs.length = 4 ∧ kNd.C w S cs x := by
  cases x with
  | mk il wd ks p =>
    obtain ⟨a, c, rfl, hc, hr⟩ := h
    exact ⟨_, rfl, rfl, by show ndC _ _ _ _; rw [ndC]; exact ⟨a, c, rfl, hc, (ndR_row w S ks a).2 hr⟩⟩

/-- What a call gives up with. -/
def flt (c p : Int) : List PanicEntry := [{ v := .iface 94 (.agg #[.int .i64 c, .int .i64 p]), recovered := false }]
/-- What a call that shows something gives. -/
structure Shows {α : Type} (V : World → (Nat → Prop) → Value → α → Prop) (w : World) (res : Option α) (e : Ending) (w' : World) : Prop where
  below : Below w.heap.size w w'
  ok : ∀ x, res = some x → ∃ v, e = .returned v ∧ V w' (fun b => w.heap.size ≤ b) v x
  bad : res = none → e = .panicked (flt 6 0)
theorem Shows.ofOk {α : Type} {V : World → (Nat → Prop) → Value → α → Prop} {w w' : World} {res : Option α} {x : α} {v : Value} (h : res = some x) (hb : Below w.heap.size w w') (hv : V w' (fun b => w.heap.size ≤ b) v x) : Shows V w res (.returned v) w' :=
  ⟨hb, fun y e => by rw [h] at e; cases e; exact ⟨v, rfl, hv⟩, fun e => by rw [h] at e; cases e⟩
theorem Shows.ofBad {α : Type} {V : World → (Nat → Prop) → Value → α → Prop} {w w' : World} {res : Option α} (h : res = none) (hb : Below w.heap.size w w') : Shows V w res (.panicked (flt 6 0)) w' :=
  ⟨hb, fun y e => (by rw [h] at e; cases e), fun _ => rfl⟩
end Go.Proofs.YtbpdhegfdmppgaaGreatDoor.Sh

/- WHAT STATEMENTS, PARAMETERS, FUNCTIONS AND UNITS SHOW AS, in plain Lean. -/
namespace Go.Proofs.YtbpdhegfdmppgaaGreatDoor.Sh
open Go.ChangeShapes Go.WideShapes Go.ChangeAt Go.RowKit

def Ex.isNil : Ex → Bool
  | .mk kind n op name l => decide (kind = 0) && (decide (n = 0) && (decide (op = 0) && (name.isEmpty && l.isEmpty)))
mutual
def shS : Sm → Option Nd
  | .mk kind name sec len fr to ix e body els =>
    if kind = 1 then (shName name).bind fun a => (shE e).bind fun b => if sec = false ∧ len = 0 ∧ fr = 0 ∧ to = 0 ∧ ix.isNil = true ∧ body = [] ∧ els = [] then some (fm [108, 101, 116] [a, b]) else none
    else if kind = 3 then (shName name).bind fun a => (shE e).bind fun b => if sec = false ∧ len = 0 ∧ fr = 0 ∧ to = 0 ∧ ix.isNil = true ∧ body = [] ∧ els = [] then some (fm [115, 101, 116] [a, b]) else none
    else if kind = 2 then (shName name).bind fun a => (shNum len 1 16).bind fun b => if fr = 0 ∧ to = 0 ∧ ix.isNil = true ∧ e.isNil = true ∧ body = [] ∧ els = [] then some (fm [110, 101, 119] [a, shLab sec, b]) else none
    else if kind = 4 then (shName name).bind fun a => (shE ix).bind fun b => (shE e).bind fun c => if sec = false ∧ len = 0 ∧ fr = 0 ∧ to = 0 ∧ body = [] ∧ els = [] then some (fm [112, 117, 116] [a, b, c]) else none
    else if kind = 5 then (shName name).bind fun a => (shNum fr 0 64).bind fun b => (shNum to 0 64).bind fun c => (shSs body).bind fun d => if sec = false ∧ len = 0 ∧ ix.isNil = true ∧ e.isNil = true ∧ els = [] then some (fm [102, 111, 114] (a :: b :: c :: d)) else none
    else if kind = 6 then (shE e).bind fun a => (shSs body).bind fun b => (shSs els).bind fun c => if name = [] ∧ sec = false ∧ len = 0 ∧ fr = 0 ∧ to = 0 ∧ ix.isNil = true then some (fm [105, 102] [a, ls b, ls c]) else none
    else none
def shSs : List Sm → Option (List Nd)
  | [] => some []
  | x :: l => (shS x).bind fun y => (shSs l).map (y :: ·)
end
theorem shSs_each : ∀ l : List Sm, shSs l = eachO shS l
  | [] => by rw [shSs, eachO]
  | x :: l => by rw [shSs, eachO, shSs_each l]
mutual
def smW : Sm → Nat
  | .mk _ name _ _ _ _ ix e body els => 1 + name.length + exW ix + exW e + smWs body + smWs els
def smWs : List Sm → Nat
  | [] => 0
  | x :: l => smW x + smWs l
end
theorem smW_mem : ∀ (l : List Sm) (x : Sm), x ∈ l → smW x ≤ smWs l
  | [], _, h => by cases h
  | a :: l, x, h => by
    rw [smWs]
    rcases List.mem_cons.1 h with rfl | h
    · omega
    · have := smW_mem l x h; omega
theorem smWs_len : ∀ (l : List Sm), l.length ≤ smWs l
  | [] => by simp
  | .mk _ _ _ _ _ _ _ _ _ _ :: l => by rw [smWs, smW, List.length_cons]; have := smWs_len l; omega
def shP (p : Pa) : Option Nd := (shName p.name).bind fun a => if p.len = 0 then some (ls [a, shLab p.sec]) else (shNum p.len 1 16).map fun b => ls [a, shLab p.sec, b]
def shF (f : Fu) : Option Nd := if f.params.length ≤ 6 then (shName f.name).bind fun a => (eachO shP f.params).bind fun ps => (shSs f.body).bind fun b => (shE f.result).map fun r => fm [102, 110] (a :: ls ps :: shLab f.sec :: b ++ [fm [114, 101, 116] [r]]) else none
def shU (u : Un) : Option (List Nd) := if u.imports.length ≤ 7 ∧ u.funcs.length ≤ 16 then (shName u.name).bind fun a => (eachO shName u.imports).bind fun im => (eachO shF u.funcs).map fun fs => (fm [117, 110, 105, 116] [a] :: (if u.imports = [] then [] else [fm [105, 109, 112, 111, 114, 116] im])) ++ fs else none
end Go.Proofs.YtbpdhegfdmppgaaGreatDoor.Sh

/- CONTRACTS of must, leaf, list, form, nameNode, labelNode. -/
namespace Go.Proofs.YtbpdhegfdmppgaaGreatDoor.Sh
open Go.ChangeShapes Go.WideShapes Go.ChangeAt Go.RowKit

theorem must_yes (w : World) : Calls Tryz.prog 75 #[.bool true] w fun e w' => e = .returned (.tuple #[]) ∧ w' = w := by
  go_enter Tryz.func75, Tryz.ntmps75
  go_wp2
  go_end0
  exact ⟨rfl, rfl⟩
theorem must_no (w : World) : Calls Tryz.prog 75 #[.bool false] w fun e w' => e = .panicked (flt 6 0) ∧ w' = w := by
  go_enter Tryz.func75, Tryz.ntmps75
  go_wp2
  exact ⟨rfl, rfl, rfl, rfl⟩
theorem size_nd : (Tryz.prog.info? 66).map (·.size) = some 4 := by kernel_rfl
theorem nd_info : (Tryz.prog.info? 66).map (fun i => (i.zero, i.size, i.bytes)) = some (some (.agg #[.bool false, .string ⟨#[]⟩, .slice none 0 0, .int .i64 0]), 4, 56) := by kernel_rfl
theorem load_nd {W : World} {b : Nat} {cs : Array Value} {t : TypeId} {f : Nat × Nat} (h : W.heap[b]? = some (.cells cs t f)) (hs : cs.size = 4) : (loadVar 66 ⟨b, 0, none⟩).run Tryz.prog W = .ok (.agg cs) W :=
  run_loadVar_row W b t 66 cs f _ h Tryz.underlying66 rfl (by rw [hs]; exact size_nd)
theorem leaf_any (s : List UInt8) (w : World) : Calls Tryz.prog 104 #[.string (bs s)] w fun e w' => e = .returned (.agg #[.bool false, .string (bs s), .slice none 0 0, .int .i64 0]) ∧ Below w.heap.size w w' := by
  go_enter Tryz.func104, Tryz.ntmps104
  go_wp2
  exact bodyPost_ret_by (results_row Tryz.results104 rfl (load_nd (heap_alloc_new w _) rfl)) rfl ⟨rfl, bl_alloc (Below.refl _ _) _⟩
theorem list_any (a : Option Addr) (n c : Nat) (w : World) : Calls Tryz.prog 84 #[.slice a n c] w fun e w' => e = .returned (.agg #[.bool true, .string ⟨#[]⟩, .slice a n c, .int .i64 0]) ∧ Below w.heap.size w w' := by
  go_enter Tryz.func84, Tryz.ntmps84
  go_wp2
  exact bodyPost_ret_by (results_row Tryz.results84 rfl (load_nd (heap_alloc_new w _) rfl)) rfl ⟨rfl, bl_alloc (Below.refl _ _) _⟩
theorem own_one (w : World) (base : Nat) (e : TypeId) (size : Nat) (cs : List Value) (hb : base ≤ w.heap.size) (hs : cs.length = size) : (w.alloc (.cells cs.toArray e)).ownsRow base e size (.slice (some ⟨w.heap.size, 0, none⟩) 1 1) 1 cs :=
  ⟨by simpa using hs, .inr ⟨w.heap.size, 1, cs.toArray, rfl, hb, heap_alloc_new w _, Nat.le_refl _, by unfold maxLen; omega, by simpa using hs, by rw [Nat.one_mul]; exact List.take_of_length_le (by simp; omega)⟩⟩
/-- The node of a word, as cells. -/
theorem leaf_C (s : List UInt8) (w : World) (S : Nat → Prop) : kNd.C w S [.bool false, .string (bs s), .slice none 0 0, .int .i64 0] (lf s) := by
  show ndC _ _ _ _
  rw [lf, ndC]
  exact ⟨none, 0, rfl, Nat.le_refl _, by rw [ndR]; trivial⟩
theorem leaf_V (s : List UInt8) (w : World) (S : Nat → Prop) : NdV w S (.agg #[.bool false, .string (bs s), .slice none 0 0, .int .i64 0]) (lf s) := ⟨none, 0, rfl, Nat.le_refl _, trivial⟩
theorem Kind.row_old {α : Type} (K : Kind α) (hn : 0 < K.n) {w : World} {S : Nat → Prop} {a : Option Addr} {l : List α} (h : K.row w S a l) : K.row w (fun b => S b ∧ b < w.heap.size) a l := K.row_mono hn h fun _ hb hlt => ⟨⟨hb, hlt⟩, rfl⟩
theorem set4c {w : World} {b : Nat} {x0 x1 x2 x3 y0 y1 y2 y3 : Value} {e : TypeId} {f : Nat × Nat} (h : w.heap[b]? = some (.cells #[x0, x1, x2, x3] e f)) : ((((w.setCell ⟨b, 0, none⟩ y0).setCell ⟨b, 1, none⟩ y1).setCell ⟨b, 2, none⟩ y2).setCell ⟨b, 3, none⟩ y3).heap[b]? = some (.cells #[y0, y1, y2, y3] e f) :=
  set_over (set_over (set_over (set_over h)))
theorem bl_set4 {a b : World} (h : Below a.heap.size a b) (k : Nat) (v0 v1 v2 v3 : Value) (hk : a.heap.size ≤ k) : Below a.heap.size a ((((b.setCell ⟨k, 0, none⟩ v0).setCell ⟨k, 1, none⟩ v1).setCell ⟨k, 2, none⟩ v2).setCell ⟨k, 3, none⟩ v3) :=
  bl_set (bl_set (bl_set (bl_set h _ _ _ hk) _ _ _ hk) _ _ _ hk) _ _ _ hk
theorem set4o {b : World} {k i : Nat} {v0 v1 v2 v3 : Value} (h : i ≠ k) : ((((b.setCell ⟨k, 0, none⟩ v0).setCell ⟨k, 1, none⟩ v1).setCell ⟨k, 2, none⟩ v2).setCell ⟨k, 3, none⟩ v3).heap[i]? = b.heap[i]? := by
  rw [setCell_other h, setCell_other h, setCell_other h, setCell_other h]
theorem Kind.lay_cat {α : Type} (K : Kind α) {w : World} {S : Nat → Prop} {ys : List Value} {m : List α} (hm : K.lay w S ys m) : ∀ {l : List α} {xs : List Value}, K.lay w S xs l → K.lay w S (xs ++ ys) (l ++ m)
  | [], xs, h => by cases h; exact hm
  | x :: l, xs, h => by
    obtain ⟨cs, zs, rfl, hC, hr⟩ := h
    exact ⟨cs, zs ++ ys, by simp, hC, Kind.lay_cat K hm hr⟩
theorem name_bs (l : List UInt8) (w : World) : Calls Tryz.prog 22 #[.string (bs l)] w fun e w' => e = .returned (.bool (isName l)) ∧ w' = w := by
  have := name_any (bs l) w
  rw [bs_list] at this
  exact this
/-- A result's block, written whole. -/
theorem nd_free {w : World} {b : Nat} {x0 x1 x2 x3 : Value} {t : TypeId} (h : w.heap[b]? = some (.cells #[x0, x1, x2, x3] t (0, 0))) :
    w.cell? ⟨b, 0, none⟩ = some x0 ∧ w.cell? ⟨b, 1, none⟩ = some x1 ∧ w.cell? ⟨b, 2, none⟩ = some x2 ∧ w.cell? ⟨b, 3, none⟩ = some x3 ∧ w.frozen? ⟨b, 0, none⟩ = false ∧ w.frozen? ⟨b, 1, none⟩ = false ∧ w.frozen? ⟨b, 2, none⟩ = false ∧ w.frozen? ⟨b, 3, none⟩ = false := by
  refine ⟨?_, ?_, ?_, ?_, ?_, ?_, ?_, ?_⟩ <;> simp [World.cell?, World.frozen?, h]
abbrev nd0 : Obj := .cells #[.bool false, .string ⟨#[]⟩, .slice none 0 0, .int .i64 0] 66
set_option maxRecDepth 100000 in
theorem nameNode_any (s : List UInt8) (w : World) : Calls Tryz.prog 77 #[.string (bs s)] w (Shows NdV w (shName s)) := by
  have hn := name_bs s
  rcases hq : isName s with _ | _ <;> rw [hq] at hn
  · have HF : Hid (shName s = none) := by show _ = _; rw [shName, hq]; rfl
    go_enter Tryz.func77, Tryz.ntmps77
    go_wp2_with (first | (go_at_call 22; refine (hn _).mono ?_; rintro e w2 ⟨rfl, h2⟩; have h2' := h2.symm; subst h2') | (go_at_call 75; refine (must_no _).mono ?_; rintro e w2 ⟨rfl, rfl⟩))
    exact ⟨rfl, .ofBad HF.out (bl_alloc (Below.refl _ _) _)⟩
  · have HF : Hid (shName s = some (lf s)) := by show _ = _; rw [shName, hq]; rfl
    go_enter Tryz.func77, Tryz.ntmps77
    go_wp2_with (first | (go_at_call 22; refine (hn _).mono ?_; rintro e w2 ⟨rfl, h2⟩; have h2' := h2.symm; subst h2') | (go_at_call 75; refine (must_yes _).mono ?_; rintro e w2 ⟨rfl, rfl⟩) | (go_at_call 104; refine (leaf_any _ _).mono ?_; rintro e w3 ⟨rfl, hb3⟩; refine Hid.out ?_))
    refine Lib.hid ?_
    have hres : w3.heap[w.heap.size]? = some nd0 := by rw [hb3.block _ (by simp)]; exact heap_alloc_new w _
    have hz : w.heap.size < w3.heap.size := lt_of_some hres
    have HB : Hid (Below w.heap.size w w3) := bl_then (bl_alloc (Below.refl _ _) _) hb3
    obtain ⟨c0, c1, c2, c3, f0, f1, f2, f3⟩ := nd_free hres
    clear hb3
    go_wp2_with fail
    exact bodyPost_ret_by (results_row Tryz.results77 rfl (load_nd (set4c hres) rfl)) rfl (.ofOk HF.out (bl_set4 HB.out _ _ _ _ _ (Nat.le_refl _)) (leaf_V s _ _))
set_option maxRecDepth 100000 in
theorem labelNode_any (b : Bool) (w : World) : Calls Tryz.prog 87 #[.bool b] w fun e w' => e = .returned (.agg #[.bool false, .string (bs (lab b)), .slice none 0 0, .int .i64 0]) ∧ Below w.heap.size w w' := by
  cases b
  all_goals
    go_enter Tryz.func87, Tryz.ntmps87
    go_wp2_with (first | (go_at_call_of 104 (Value.string ⟨#[115, 101, 99]⟩); refine (leaf_any [115, 101, 99] _).mono ?_; rintro e w3 ⟨rfl, hb3⟩; refine Hid.out ?_) | (go_at_call_of 104 (Value.string ⟨#[112, 117, 98]⟩); refine (leaf_any [112, 117, 98] _).mono ?_; rintro e w3 ⟨rfl, hb3⟩; refine Hid.out ?_))
    refine Lib.hid ?_
    have hres : w3.heap[w.heap.size]? = some nd0 := by rw [hb3.block _ (by simp)]; exact heap_alloc_new w _
    have hz : w.heap.size < w3.heap.size := lt_of_some hres
    have HB : Hid (Below w.heap.size w w3) := bl_then (bl_alloc (Below.refl _ _) _) hb3
    obtain ⟨c0, c1, c2, c3, f0, f1, f2, f3⟩ := nd_free hres
    clear hb3
    go_wp2_with fail
    exact bodyPost_ret_by (results_row Tryz.results87 rfl (load_nd (set4c hres) rfl)) rfl ⟨rfl, bl_set4 HB.out _ _ _ _ _ (Nat.le_refl _)⟩
set_option maxRecDepth 100000 in
set_option maxHeartbeats 1000000 in
theorem form_any {S : Nat → Prop} (s : List UInt8) (a : Option Addr) (l : List Nd) (c : Nat) (w : World) (h : kNd.row w S a l) (hl : l.length ≤ 1000000) :
    Calls Tryz.prog 76 #[.string (bs s), .slice a l.length c] w fun e w' => (∃ v, e = .returned v ∧ NdV w' (fun b => S b ∨ w.heap.size ≤ b) v (fm s l)) ∧ Below w.heap.size w w' := by
  have h := kNd.row_old (by decide) h
  go_enter Tryz.func76, Tryz.ntmps76
  go_wp2_with (first | (go_at_call 104; refine (leaf_any _ _).mono ?_; rintro e w1 ⟨rfl, hb1⟩; refine Hid.out ?_))
  refine Lib.hid ?_
  have hres : w1.heap[w.heap.size]? = some (.cells #[.bool false, .string ⟨#[]⟩, .slice none 0 0, .int .i64 0] 66) := by
    rw [hb1.block _ (by simp)]; exact heap_alloc_new w _
  have hz1 : w.heap.size < w1.heap.size := lt_of_some hres
  have HB1 : Hid (Below w.heap.size w w1) := bl_then (bl_alloc (Below.refl _ _) _) hb1
  have hr2 : kNd.row (w1.alloc (.cells #[.bool false, .string (bs s), .slice none 0 0, .int .i64 0] 66)) (fun b => S b ∧ b < w.heap.size) a l := kNd.row_mono (by decide) h fun k hk hlt => ⟨hk, by rw [heap_alloc_old w1 _ (by omega)]; exact HB1.out.block k hlt⟩
  obtain ⟨cs, hlay, hsrc⟩ := kNd.src (c := c) (tx := 23) Tryz.underlying23 hr2
  have HL : Hid (kNd.lay (w1.alloc (.cells #[.bool false, .string (bs s), .slice none 0 0, .int .i64 0] 66)) (fun b => S b ∧ b < w.heap.size) cs l) := hlay
  have hof := own_one w1 w1.heap.size 66 4 [.bool false, .string (bs s), .slice none 0 0, .int .i64 0] (Nat.le_refl _) rfl
  clear hlay hr2 hb1
  go_wp2_with (first | (at_builtin; refine wpList_append_src nd_info rfl Tryz.underlying23 (by decide) _ rfl _ _ rfl w1.heap.size (Value.slice (some ⟨w1.heap.size, 0, none⟩) 1 1) 1 [.bool false, .string (bs s), .slice none 0 0, .int .i64 0] rfl hof _ l.length cs rfl hsrc (by omega) (by simp) ?_; intro y c2 w2 hown hgrow hat; refine Hid.out ?_) | go_in)
  refine Lib.hid ?_
  have HK : Hid (Below w1.heap.size w1 w2) := by
    refine Kept.to_below ((Kept.alloc w1 _ (fun k => w1.heap.size ≤ k)).trans ((Kept.of_grown hgrow).mono fun k _ hk => ?_)) fun k hk => hk
    have : w1.heap.size = k := by simpa [Value.ownBlock] using hk
    omega
  have HO : Hid (w2.ownsRow w1.heap.size 66 4 (.slice y (1 + l.length) c2) (1 + l.length) ([.bool false, .string (bs s), .slice none 0 0, .int .i64 0] ++ cs)) := hown
  have hres2 : w2.heap[w.heap.size]? = some (.cells #[.bool false, .string ⟨#[]⟩, .slice none 0 0, .int .i64 0] 66) := by
    rw [HK.out.block _ hz1]; exact hres
  have HGO : Hid (∀ b, b < w1.heap.size → w2.heap[b]? = w1.heap[b]?) := fun b hb => HK.out.block b hb
  clear hown hgrow hat hsrc hof hres
  go_wp2_with (first | (go_at_call 84; refine (list_any _ _ _ _).mono ?_; rintro e w3 ⟨rfl, hb3⟩; refine Hid.out ?_))
  refine Lib.hid ?_
  have hz2 : w.heap.size < w2.heap.size := lt_of_some hres2
  have hres3 : w3.heap[w.heap.size]? = some (.cells #[.bool false, .string ⟨#[]⟩, .slice none 0 0, .int .i64 0] 66) := by
    rw [hb3.block _ hz2]; exact hres2
  obtain ⟨c0, c1, c2', c3⟩ := cells4 hres3
  have hz3 : w.heap.size < w3.heap.size := lt_of_some hres3
  have f0 : w3.frozen? ⟨w.heap.size, 0, none⟩ = false := by simp [World.frozen?, hres3]
  have f1 : w3.frozen? ⟨w.heap.size, 1, none⟩ = false := by simp [World.frozen?, hres3]
  have f2 : w3.frozen? ⟨w.heap.size, 2, none⟩ = false := by simp [World.frozen?, hres3]
  have f3 : w3.frozen? ⟨w.heap.size, 3, none⟩ = false := by simp [World.frozen?, hres3]
  have HB3 : Hid (Below w.heap.size w w3) := bl_then (bl_then HB1.out HK.out) hb3
  have HB23 : Hid (Below w2.heap.size w2 w3) := hb3
  clear hb3
  go_wp2
  refine bodyPost_ret_by (results_row Tryz.results76 rfl (load_nd (set4c hres3) rfl)) rfl ⟨⟨_, rfl, ?_⟩, bl_set4 HB3.out _ _ _ _ _ (Nat.le_refl _)⟩
  have hlen : (lf s :: l).length = 1 + l.length := by simp; omega
  have hO := HO.out
  have hlay : kNd.lay w2 (fun b => S b ∧ b < w.heap.size) ([.bool false, .string (bs s), .slice none 0 0, .int .i64 0] ++ cs) (lf s :: l) :=
    ⟨_, _, rfl, leaf_C s _ _, kNd.lay_mono HL.out fun b hb _ => ⟨hb, by rw [HGO.out b (by omega), heap_alloc_old w1 _ (by omega)]⟩⟩
  rw [← hlen] at hO
  obtain ⟨a', c', he, hrow, hc'⟩ := kNd.own_rd (t := 66) (S := fun b => S b ∧ b < w.heap.size) (T := fun b => (S b ∧ b < w.heap.size) ∨ w1.heap.size ≤ b) ⟨_, hO, hlay⟩ (fun _ hb => .inl hb) fun g hg => .inr (hO.lt g hg).1
  refine ⟨a', c', by rw [← hlen, he]; rfl, hc', kNd.row_mono (by decide) hrow fun i hi hlt => ⟨?_, ?_⟩⟩
  · rcases hi with hi | hi
    · exact .inl hi.1
    · exact .inr (by omega)
  · rw [set4o (by rcases hi with hi | hi <;> omega)]
    exact HB23.out.block i hlt
end Go.Proofs.YtbpdhegfdmppgaaGreatDoor.Sh

/- HOW MUCH EXPRESSIONS AND STATEMENTS ARE, as the statements' own Heavy and exprHeavy tell it (as far as 3000; f: how much deeper they may go). Plain Lean. -/
namespace Go.Proofs.YtbpdhegfdmppgaaGreatDoor.Sh

def exH : Nat → List Ex → Nat → Nat
  | 0, [], n => n
  | 0, _ :: _, n => if n ≤ 3000 then 3001 else n
  | _ + 1, [], n => n
  | f + 1, .mk _ _ _ name ks :: l, n => if n ≤ 3000 then exH (f + 1) l (n + 1 + min name.length 100000 + exH f ks 0) else n
termination_by f l _ => (f, l.length)
theorem exH_nil (f n : Nat) : exH f [] n = n := by cases f <;> rw [exH]
theorem exH_zero (x : Ex) (l : List Ex) (n : Nat) (h : n ≤ 3000) : exH 0 (x :: l) n = 3001 := by rw [exH, if_pos h]
theorem exH_stop (f : Nat) (l : List Ex) (n : Nat) (h : ¬ n ≤ 3000) : exH f l n = n := by
  cases l with
  | nil => exact exH_nil f n
  | cons x l =>
    cases f with
    | zero => rw [exH, if_neg h]
    | succ f => obtain ⟨k, m, o, nm, ks⟩ := x; rw [exH, if_neg h]
theorem exH_more (f : Nat) (k : Int) (m : Nat) (o : Int) (nm : List UInt8) (ks l : List Ex) (n : Nat) (h : n ≤ 3000) : exH (f + 1) (.mk k m o nm ks :: l) n = exH (f + 1) l (n + 1 + min nm.length 100000 + exH f ks 0) := by rw [exH, if_pos h]
theorem exH_ge : ∀ (f : Nat) (l : List Ex) (n : Nat), n ≤ exH f l n
  | 0, [], n => by rw [exH_nil]; exact Nat.le_refl _
  | 0, x :: l, n => by
    by_cases h : n ≤ 3000
    · rw [exH_zero x l n h]; omega
    · rw [exH_stop _ _ _ h]; exact Nat.le_refl _
  | f + 1, [], n => by rw [exH_nil]; exact Nat.le_refl _
  | f + 1, .mk k m o nm ks :: l, n => by
    by_cases h : n ≤ 3000
    · rw [exH_more _ _ _ _ _ _ _ _ h]
      have := exH_ge (f + 1) l (n + 1 + min nm.length 100000 + exH f ks 0)
      omega
    · rw [exH_stop _ _ _ h]; exact Nat.le_refl _
termination_by f l _ => (f, l.length)
theorem exH_le : ∀ (f : Nat) (l : List Ex) (n : Nat), exH f l n ≤ max n (103002 * (f + 1))
  | 0, [], n => by rw [exH_nil]; omega
  | 0, x :: l, n => by
    by_cases h : n ≤ 3000
    · rw [exH_zero x l n h]; omega
    · rw [exH_stop _ _ _ h]; omega
  | f + 1, [], n => by rw [exH_nil]; omega
  | f + 1, .mk k m o nm ks :: l, n => by
    by_cases h : n ≤ 3000
    · rw [exH_more _ _ _ _ _ _ _ _ h]
      have h1 := exH_le f ks 0
      have h2 := exH_le (f + 1) l (n + 1 + min nm.length 100000 + exH f ks 0)
      omega
    · rw [exH_stop _ _ _ h]; omega
termination_by f l _ => (f, l.length)
theorem exW_mk (k : Int) (m : Nat) (o : Int) (nm : List UInt8) (l : List Ex) : exW (.mk k m o nm l) = 1 + nm.length + exWs l := by rw [exW]
theorem exWs_nil : exWs [] = 0 := by rw [exWs]
theorem exWs_cons (x : Ex) (l : List Ex) : exWs (x :: l) = exW x + exWs l := by rw [exWs]
/-- What is not too heavy is no heavier than it is told. -/
theorem exH_tells : ∀ (f : Nat) (l : List Ex) (n : Nat), exH f l n ≤ 3000 → n + exWs l ≤ exH f l n
  | 0, [], n, _ => by rw [exH_nil, exWs_nil]; exact Nat.le_refl _
  | 0, x :: l, n, h => by
    by_cases hn : n ≤ 3000
    · rw [exH_zero x l n hn] at h; omega
    · rw [exH_stop _ _ _ hn] at h; omega
  | f + 1, [], n, _ => by rw [exH_nil, exWs_nil]; exact Nat.le_refl _
  | f + 1, .mk k m o nm ks :: l, n, h => by
    by_cases hn : n ≤ 3000
    · rw [exH_more _ _ _ _ _ _ _ _ hn] at h ⊢
      have h0 := exH_ge (f + 1) l (n + 1 + min nm.length 100000 + exH f ks 0)
      have h1 := exH_tells f ks 0 (by omega)
      have h2 := exH_tells (f + 1) l _ h
      rw [exWs_cons, exW_mk]
      omega
    · rw [exH_stop _ _ _ hn] at h; omega
termination_by f l _ => (f, l.length)
def smH : Nat → List Sm → Nat → Nat
  | 0, [], n => n
  | 0, _ :: _, n => if n ≤ 3000 then 3001 else n
  | _ + 1, [], n => n
  | f + 1, .mk _ name _ _ _ _ ix e body els :: l, n => if n ≤ 3000 then smH (f + 1) l (n + 1 + min name.length 100000 + exH (f + 1) [ix, e] 0 + smH f body 0 + smH f els 0) else n
termination_by f l _ => (f, l.length)
theorem smH_nil (f n : Nat) : smH f [] n = n := by cases f <;> rw [smH]
theorem smH_zero (x : Sm) (l : List Sm) (n : Nat) (h : n ≤ 3000) : smH 0 (x :: l) n = 3001 := by rw [smH, if_pos h]
theorem smH_stop (f : Nat) (l : List Sm) (n : Nat) (h : ¬ n ≤ 3000) : smH f l n = n := by
  cases l with
  | nil => exact smH_nil f n
  | cons x l =>
    cases f with
    | zero => rw [smH, if_neg h]
    | succ f => obtain ⟨k, nm, s, ln, fr, to, ix, e, bd, el⟩ := x; rw [smH, if_neg h]
theorem smH_more (f : Nat) (k : Int) (nm : List UInt8) (s : Bool) (ln fr to : Int) (ix e : Ex) (bd el l : List Sm) (n : Nat) (h : n ≤ 3000) : smH (f + 1) (.mk k nm s ln fr to ix e bd el :: l) n = smH (f + 1) l (n + 1 + min nm.length 100000 + exH (f + 1) [ix, e] 0 + smH f bd 0 + smH f el 0) := by rw [smH, if_pos h]
theorem smH_ge : ∀ (f : Nat) (l : List Sm) (n : Nat), n ≤ smH f l n
  | 0, [], n => by rw [smH_nil]; exact Nat.le_refl _
  | 0, x :: l, n => by
    by_cases h : n ≤ 3000
    · rw [smH_zero x l n h]; omega
    · rw [smH_stop _ _ _ h]; exact Nat.le_refl _
  | f + 1, [], n => by rw [smH_nil]; exact Nat.le_refl _
  | f + 1, .mk k nm s ln fr to ix e bd el :: l, n => by
    by_cases h : n ≤ 3000
    · rw [smH_more _ _ _ _ _ _ _ _ _ _ _ _ _ h]
      have := smH_ge (f + 1) l (n + 1 + min nm.length 100000 + exH (f + 1) [ix, e] 0 + smH f bd 0 + smH f el 0)
      omega
    · rw [smH_stop _ _ _ h]; exact Nat.le_refl _
termination_by f l _ => (f, l.length)
theorem smH_le : ∀ (f : Nat) (l : List Sm) (n : Nat), f ≤ 31 → smH f l n ≤ max n (4000000 * (2 ^ (f + 1) - 1))
  | 0, [], n, _ => by rw [smH_nil]; omega
  | 0, x :: l, n, _ => by
    by_cases h : n ≤ 3000
    · rw [smH_zero x l n h]; omega
    · rw [smH_stop _ _ _ h]; omega
  | f + 1, [], n, _ => by rw [smH_nil]; omega
  | f + 1, .mk k nm s ln fr to ix e bd el :: l, n, hf => by
    by_cases h : n ≤ 3000
    · rw [smH_more _ _ _ _ _ _ _ _ _ _ _ _ _ h]
      have h0 := exH_le (f + 1) [ix, e] 0
      have h1 := smH_le f bd 0 (by omega)
      have h2 := smH_le f el 0 (by omega)
      have h3 := smH_le (f + 1) l (n + 1 + min nm.length 100000 + exH (f + 1) [ix, e] 0 + smH f bd 0 + smH f el 0) hf
      have hp : 2 ^ (f + 1 + 1) = 2 * 2 ^ (f + 1) := by rw [Nat.pow_succ]; omega
      have hq : 1 ≤ 2 ^ (f + 1) := Nat.one_le_two_pow
      omega
    · rw [smH_stop _ _ _ h]; omega
termination_by f l _ => (f, l.length)
theorem smW_mk (k : Int) (nm : List UInt8) (s : Bool) (ln fr to : Int) (ix e : Ex) (bd el : List Sm) : smW (.mk k nm s ln fr to ix e bd el) = 1 + nm.length + exW ix + exW e + smWs bd + smWs el := by rw [smW]
theorem smWs_nil : smWs [] = 0 := by rw [smWs]
theorem smWs_cons (x : Sm) (l : List Sm) : smWs (x :: l) = smW x + smWs l := by rw [smWs]
theorem smH_tells : ∀ (f : Nat) (l : List Sm) (n : Nat), smH f l n ≤ 3000 → n + smWs l ≤ smH f l n
  | 0, [], n, _ => by rw [smH_nil, smWs_nil]; exact Nat.le_refl _
  | 0, x :: l, n, h => by
    by_cases hn : n ≤ 3000
    · rw [smH_zero x l n hn] at h; omega
    · rw [smH_stop _ _ _ hn] at h; omega
  | f + 1, [], n, _ => by rw [smH_nil, smWs_nil]; exact Nat.le_refl _
  | f + 1, .mk k nm s ln fr to ix e bd el :: l, n, h => by
    by_cases hn : n ≤ 3000
    · rw [smH_more _ _ _ _ _ _ _ _ _ _ _ _ _ hn] at h ⊢
      have h0 := smH_ge (f + 1) l (n + 1 + min nm.length 100000 + exH (f + 1) [ix, e] 0 + smH f bd 0 + smH f el 0)
      have h1 := exH_tells (f + 1) [ix, e] 0 (by omega)
      have h2 := smH_tells f bd 0 (by omega)
      have h3 := smH_tells f el 0 (by omega)
      have h4 := smH_tells (f + 1) l _ h
      rw [exWs_cons, exWs_cons, exWs_nil] at h1
      rw [smWs_cons, smW_mk]
      omega
    · rw [smH_stop _ _ _ hn] at h; omega
termination_by f l _ => (f, l.length)
end Go.Proofs.YtbpdhegfdmppgaaGreatDoor.Sh
