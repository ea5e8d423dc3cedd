/- UNITS AND NODES, in plain Lean and in memory. -/
import Derived.Test.YtlagadofiahijaaDoorFRow
namespace Go.Proofs.YtlagadofiahijaaDoor.Sh
open Go.ChangeShapes Go.WideShapes Go.ChangeAt Go.RowKit

inductive Nd where
  | mk (isList : Bool) (word : List UInt8) (kids : List Nd) (pos : Int)
inductive Ex where
  | mk (kind : Int) (n : Nat) (op : Int) (name : List UInt8) (l : List Ex)
inductive Sm where
  | mk (kind : Int) (name : List UInt8) (sec : Bool) (len fr to : Int) (ix e : Ex) (body els : List Sm)
structure Pa where
  name : List UInt8
  sec : Bool
  len : Int
structure Fu where
  name : List UInt8
  params : List Pa
  sec : Bool
  body : List Sm
  result : Ex
structure Un where
  name : List UInt8
  imports : List (List UInt8)
  funcs : List Fu

def Ex.none : Ex := .mk 0 0 0 [] []

mutual
def exC (w : World) (S : Nat → Prop) : List Value → Ex → Prop
  | cs, .mk kind n op name l => ∃ a c, cs = [.int .i64 kind, .int .u32 n, .int .i64 op, .string (bs name), .slice a l.length c] ∧ l.length ≤ c ∧ exR w S a l
def exR (w : World) (S : Nat → Prop) : Option Addr → List Ex → Prop
  | _, [] => True
  | a, x :: l => ∃ b o cs, a = some ⟨b, o, none⟩ ∧ S b ∧ (∀ j u, cs[j]? = some u → w.cell? ⟨b, o + j, none⟩ = some u) ∧ exC w S cs x ∧ exR w S (some ⟨b, o + 5, none⟩) l
end
theorem exC_len {w : World} {S : Nat → Prop} {cs : List Value} {x : Ex} (h : exC w S cs x) : cs.length = 5 := by
  cases x with
  | mk kind n op name l =>
    rw [exC] at h
    obtain ⟨a, c, rfl, _⟩ := h
    rfl
theorem exC_one {w : World} {S : Nat → Prop} {cs : List Value} {x : Ex} (h : exC w S cs x) : ∀ u ∈ cs, u.oneCell' = true := by
  cases x with
  | mk kind n op name l =>
    rw [exC] at h
    obtain ⟨a, c, rfl, _⟩ := h
    simp [Value.oneCell']
mutual
theorem exC_mono {w w' : World} {S T : Nat → Prop} (hg : Goes w w' S T) : ∀ {x : Ex} {cs : List Value}, exC w S cs x → exC w' T cs x
  | .mk kind n op name l, cs, h => by
    rw [exC] at h ⊢
    obtain ⟨a, c, rfl, hc, hr⟩ := h
    exact ⟨a, c, rfl, hc, exR_mono hg hr⟩
theorem exR_mono {w w' : World} {S T : Nat → Prop} (hg : Goes w w' S T) : ∀ {l : List Ex} {a : Option Addr}, exR w S a l → exR w' T a l
  | [], _, _ => by rw [exR]; trivial
  | x :: l, a, h => by
    rw [exR] at h ⊢
    obtain ⟨b, o, cs, rfl, hS, hc, hC, hr⟩ := h
    have hl := exC_len hC
    have hlt : b < w.heap.size := World.block_lt_of_cell? w _ (hc 0 cs[0] (List.getElem?_eq_getElem (by omega)))
    obtain ⟨hT, he⟩ := hg b hS hlt
    exact ⟨b, o, cs, rfl, hT, fun j u hj => by rw [World.cell?_of_block he]; exact hc j u hj, exC_mono hg hC, exR_mono hg hr⟩
end
def kEx : Kind Ex where
  n := 5
  C := exC
  len := exC_len
  one := exC_one
  mono := fun h hg => exC_mono hg h
theorem exR_row (w : World) (S : Nat → Prop) : ∀ (l : List Ex) (a : Option Addr), exR w S a l ↔ kEx.row w S a l
  | [], a => by rw [exR]; rfl
  | x :: l, a => by
    rw [exR]
    constructor
    · rintro ⟨b, o, cs, h1, h2, h3, h4, h5⟩
      exact ⟨b, o, cs, h1, h2, h3, h4, (exR_row w S l _).1 h5⟩
    · rintro ⟨b, o, cs, h1, h2, h3, h4, h5⟩
      exact ⟨b, o, cs, h1, h2, h3, h4, (exR_row w S l _).2 h5⟩
/-- The value of an expression. -/
def ExV (w : World) (S : Nat → Prop) (v : Value) : Ex → Prop
  | .mk kind n op name l => ∃ a c, v = .agg #[.int .i64 kind, .int .u32 n, .int .i64 op, .string (bs name), .slice a l.length c] ∧ l.length ≤ c ∧ exR w S a l
theorem ExV.mono {w w' : World} {S T : Nat → Prop} {v : Value} {x : Ex} (h : ExV w S v x) (hg : Goes w w' S T) : ExV w' T v x := by
  cases x with
  | mk kind n op name l =>
    obtain ⟨a, c, rfl, hc, hr⟩ := h
    exact ⟨a, c, rfl, hc, exR_mono hg hr⟩

mutual
def smC (w : World) (S : Nat → Prop) : List Value → Sm → Prop
  | cs, .mk kind name sec len fr to (.mk k1 n1 o1 m1 l1) (.mk k2 n2 o2 m2 l2) body els => ∃ a1 c1 a2 c2 a3 c3 a4 c4, cs = [.int .i64 kind, .string (bs name), .bool sec, .int .i64 len, .int .i64 fr, .int .i64 to, .int .i64 k1, .int .u32 n1, .int .i64 o1, .string (bs m1), .slice a1 l1.length c1, .int .i64 k2, .int .u32 n2, .int .i64 o2, .string (bs m2), .slice a2 l2.length c2, .slice a3 body.length c3, .slice a4 els.length c4] ∧
      l1.length ≤ c1 ∧ l2.length ≤ c2 ∧ body.length ≤ c3 ∧ els.length ≤ c4 ∧ exR w S a1 l1 ∧ exR w S a2 l2 ∧ smR w S a3 body ∧ smR w S a4 els
def smR (w : World) (S : Nat → Prop) : Option Addr → List Sm → Prop
  | _, [] => True
  | a, x :: l => ∃ b o cs, a = some ⟨b, o, none⟩ ∧ S b ∧ (∀ j u, cs[j]? = some u → w.cell? ⟨b, o + j, none⟩ = some u) ∧ smC w S cs x ∧ smR w S (some ⟨b, o + 18, none⟩) l
end
theorem smC_mk (w : World) (S : Nat → Prop) (cs : List Value) (kind : Int) (name : List UInt8) (sec : Bool) (len fr to : Int) (k1 : Int) (n1 : Nat) (o1 : Int) (m1 : List UInt8) (l1 : List Ex) (k2 : Int) (n2 : Nat) (o2 : Int) (m2 : List UInt8) (l2 : List Ex) (body els : List Sm) :
    smC w S cs (.mk kind name sec len fr to (.mk k1 n1 o1 m1 l1) (.mk k2 n2 o2 m2 l2) body els) = ∃ a1 c1 a2 c2 a3 c3 a4 c4, cs = [.int .i64 kind, .string (bs name), .bool sec, .int .i64 len, .int .i64 fr, .int .i64 to, .int .i64 k1, .int .u32 n1, .int .i64 o1, .string (bs m1), .slice a1 l1.length c1, .int .i64 k2, .int .u32 n2, .int .i64 o2, .string (bs m2), .slice a2 l2.length c2, .slice a3 body.length c3, .slice a4 els.length c4] ∧
      l1.length ≤ c1 ∧ l2.length ≤ c2 ∧ body.length ≤ c3 ∧ els.length ≤ c4 ∧ exR w S a1 l1 ∧ exR w S a2 l2 ∧ smR w S a3 body ∧ smR w S a4 els := by rw [smC]
theorem smC_len {w : World} {S : Nat → Prop} {cs : List Value} {x : Sm} (h : smC w S cs x) : cs.length = 18 := by
  obtain ⟨kind, name, sec, len, fr, to, ⟨k1, n1, o1, m1, l1⟩, ⟨k2, n2, o2, m2, l2⟩, body, els⟩ := x
  rw [smC_mk] at h
  obtain ⟨a1, c1, a2, c2, a3, c3, a4, c4, rfl, _⟩ := h
  rfl
theorem smC_one {w : World} {S : Nat → Prop} {cs : List Value} {x : Sm} (h : smC w S cs x) : ∀ u ∈ cs, u.oneCell' = true := by
  obtain ⟨kind, name, sec, len, fr, to, ⟨k1, n1, o1, m1, l1⟩, ⟨k2, n2, o2, m2, l2⟩, body, els⟩ := x
  rw [smC_mk] at h
  obtain ⟨a1, c1, a2, c2, a3, c3, a4, c4, rfl, _⟩ := h
  simp [Value.oneCell']
mutual
theorem smC_mono {w w' : World} {S T : Nat → Prop} (hg : Goes w w' S T) : ∀ {x : Sm} {cs : List Value}, smC w S cs x → smC w' T cs x
  | .mk kind name sec len fr to (.mk k1 n1 o1 m1 l1) (.mk k2 n2 o2 m2 l2) body els, cs, h => by
    rw [smC_mk] at h ⊢
    obtain ⟨a1, c1, a2, c2, a3, c3, a4, c4, rfl, h1, h2, h3, h4, r1, r2, r3, r4⟩ := h
    exact ⟨a1, c1, a2, c2, a3, c3, a4, c4, rfl, h1, h2, h3, h4, exR_mono hg r1, exR_mono hg r2, smR_mono hg r3, smR_mono hg r4⟩
theorem smR_mono {w w' : World} {S T : Nat → Prop} (hg : Goes w w' S T) : ∀ {l : List Sm} {a : Option Addr}, smR w S a l → smR w' T a l
  | [], _, _ => by rw [smR]; trivial
  | x :: l, a, h => by
    rw [smR] at h ⊢
    obtain ⟨b, o, cs, rfl, hS, hc, hC, hr⟩ := h
    have hl := smC_len hC
    have hlt : b < w.heap.size := World.block_lt_of_cell? w _ (hc 0 cs[0] (List.getElem?_eq_getElem (by omega)))
    obtain ⟨hT, he⟩ := hg b hS hlt
    exact ⟨b, o, cs, rfl, hT, fun j u hj => by rw [World.cell?_of_block he]; exact hc j u hj, smC_mono hg hC, smR_mono hg hr⟩
end
def kSm : Kind Sm where
  n := 18
  C := smC
  len := smC_len
  one := smC_one
  mono := fun h hg => smC_mono hg h
theorem smR_row (w : World) (S : Nat → Prop) : ∀ (l : List Sm) (a : Option Addr), smR w S a l ↔ kSm.row w S a l
  | [], a => by rw [smR]; rfl
  | x :: l, a => by
    rw [smR]
    constructor
    · rintro ⟨b, o, cs, h1, h2, h3, h4, h5⟩
      exact ⟨b, o, cs, h1, h2, h3, h4, (smR_row w S l _).1 h5⟩
    · rintro ⟨b, o, cs, h1, h2, h3, h4, h5⟩
      exact ⟨b, o, cs, h1, h2, h3, h4, (smR_row w S l _).2 h5⟩
/-- The value of a statement. -/
def SmV (w : World) (S : Nat → Prop) (v : Value) (x : Sm) : Prop := ∃ cs : List Value, v = .agg cs.toArray ∧ smC w S cs x

def kPa : Kind Pa where
  n := 3
  C := fun _ _ cs x => cs = [.string (bs x.name), .bool x.sec, .int .i64 x.len]
  len := fun h => by rw [h]; rfl
  one := fun h => by rw [h]; simp [Value.oneCell']
  mono := fun h _ => h
def PaV (w : World) (S : Nat → Prop) (v : Value) (x : Pa) : Prop := ∃ cs : List Value, v = .agg cs.toArray ∧ kPa.C w S cs x
def fuC (w : World) (S : Nat → Prop) (cs : List Value) : Fu → Prop
  | ⟨name, params, sec, body, .mk k n o m l⟩ => ∃ a1 c1 a2 c2 a3 c3, cs = [.string (bs name), .slice a1 params.length c1, .bool sec, .slice a2 body.length c2, .int .i64 k, .int .u32 n, .int .i64 o, .string (bs m), .slice a3 l.length c3] ∧
      params.length ≤ c1 ∧ body.length ≤ c2 ∧ l.length ≤ c3 ∧ kPa.row w S a1 params ∧ smR w S a2 body ∧ exR w S a3 l
def kFu : Kind Fu where
  n := 9
  C := fuC
  len := fun {w S cs x} h => by
    obtain ⟨name, params, sec, body, k, n, o, m, l⟩ := x
    obtain ⟨a1, c1, a2, c2, a3, c3, rfl, _⟩ := h
    rfl
  one := fun {w S cs x} h => by
    obtain ⟨name, params, sec, body, k, n, o, m, l⟩ := x
    obtain ⟨a1, c1, a2, c2, a3, c3, rfl, _⟩ := h
    simp [Value.oneCell']
  mono := fun {w w' S T cs x} h hg => by
    obtain ⟨name, params, sec, body, k, n, o, m, l⟩ := x
    obtain ⟨a1, c1, a2, c2, a3, c3, rfl, h1, h2, h3, r1, r2, r3⟩ := h
    exact ⟨a1, c1, a2, c2, a3, c3, rfl, h1, h2, h3, kPa.row_mono (by show 0 < 3; omega) r1 hg, smR_mono hg r2, exR_mono hg r3⟩
def FuV (w : World) (S : Nat → Prop) (v : Value) (x : Fu) : Prop := ∃ cs : List Value, v = .agg cs.toArray ∧ fuC w S cs x
def UnV (w : World) (S : Nat → Prop) (v : Value) (u : Un) : Prop := ∃ a1 c1 a2 c2, v = .agg #[.string (bs u.name), .slice a1 u.imports.length c1, .slice a2 u.funcs.length c2] ∧ u.imports.length ≤ c1 ∧ u.funcs.length ≤ c2 ∧ kStr.row w S a1 u.imports ∧ kFu.row w S a2 u.funcs
end Go.Proofs.YtlagadofiahijaaDoor.Sh
