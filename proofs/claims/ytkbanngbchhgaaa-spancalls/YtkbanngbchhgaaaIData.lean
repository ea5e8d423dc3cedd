/- LOWERED FUNCTIONS, and what is promised of them, in plain Lean; how they lie in memory. -/
import Derived.Test.YtkbanngbchhgaaaFName
namespace Go.Proofs.Ytkbanngbchhgaaa
open Go.ChangeShapes Go.WideShapes Go.ChangeAt Go.RowKit

/-- A type. -/
structure Ty where
  sec : Bool
  len : Int
deriving DecidableEq
/-- An instruction. -/
structure Ir where
  kind : Int
  op : Int
  d : Int
  a : Int
  b : Int
  c : Int
  n : Nat
  name : List UInt8
  args : List Int
deriving DecidableEq
/-- A function that is lowered. -/
structure Co where
  name : List UInt8
  ps : List Ty
  regs : Int
  cells : Int
  l : List Ir
deriving DecidableEq

/-- A text up to a byte, and what is behind it. -/
def cutB (b : UInt8) : List UInt8 → List UInt8 × List UInt8
  | [] => ([], [])
  | c :: l => if c = b then ([], l) else (c :: (cutB b l).1, (cutB b l).2)
/-- Two names with a dot between. -/
def fullB (s : List UInt8) : Bool := isName (cutB 46 s).1 && isName (cutB 46 s).2
/-- How many parameters are words; the lengths of the others. -/
def wordsN : List Ty → Nat
  | [] => 0
  | t :: l => (if t.len = 0 then 1 else 0) + wordsN l
def cellsN : List Ty → Int
  | [] => 0
  | t :: l => t.len + cellsN l
def tyOk (t : Ty) : Bool := decide (0 ≤ t.len) && decide (t.len ≤ 16)
/-- May all of a function but its instructions be? -/
def formB (c : Co) : Bool := fullB c.name && decide (c.ps.length ≤ 6) && decide (0 < c.l.length) && decide (c.l.length ≤ 10000) && c.ps.all tyOk &&
  decide ((wordsN c.ps : Int) ≤ c.regs) && decide (c.regs ≤ 10000) && decide (cellsN c.ps ≤ c.cells) && decide (c.cells ≤ 4096)
def readsL (x : Ir) : List Int :=
  if x.kind = 2 ∨ x.kind = 6 ∨ x.kind = 9 ∨ x.kind = 10 then [x.a] else if x.kind = 3 then [x.a, x.b] else if x.kind = 4 then [x.a, x.b, x.c] else if x.kind = 7 then x.args else []
def writesB (x : Ir) : Bool := decide (x.kind = 1 ∨ x.kind = 2 ∨ x.kind = 3 ∨ x.kind = 4 ∨ x.kind = 5 ∨ x.kind = 7)
def knownB (x : Ir) : Bool := if x.kind = 3 then decide (1 ≤ x.op ∧ x.op ≤ 10) else if x.kind = 7 then decide (x.args.length ≤ 6) && fullB x.name else decide (1 ≤ x.kind ∧ x.kind ≤ 10)
def inB (r : Int) (x : Int) : Bool := decide (0 ≤ x ∧ x < r)
/-- What is wrong with the i-th instruction; 0: nothing. -/
def faultN (c : Co) (i : Nat) (x : Ir) : Int :=
  if knownB x = false then 14 else if ((readsL x).all (inB c.regs) && (!writesB x || inB c.regs x.d)) = false then 15 else if (x.kind = 5 ∨ x.kind = 6) ∧ c.cells ≤ x.n then 16
  else if (x.kind = 8 ∨ x.kind = 9) ∧ (x.c ≤ i ∨ c.l.length ≤ x.c) then 17 else if i + 1 = c.l.length ∧ x.kind ≠ 10 then 18 else 0
/-- The first fault from a place on. -/
def faultFrom (c : Co) : Nat → List Ir → Int × Int
  | _, [] => (0, -1)
  | i, x :: l => if faultN c i x = 0 then faultFrom c (i + 1) l else (faultN c i x, i)
/-- What is wrong with a function, and with which instruction. -/
def rightR (c : Co) : Int × Int := if formB c then faultFrom c 0 c.l else (6, -1)

/-- Numbers. -/
def kInt : Kind Int where
  n := 1
  C := fun _ _ cs x => cs = [.int .i64 x]
  len := fun h => by rw [h]; rfl
  one := fun h => by rw [h]; simp [Value.oneCell']
  mono := fun h _ => h
/-- Words. -/
def kWd : Kind Nat where
  n := 1
  C := fun _ _ cs x => cs = [.int .u32 (x : Int)] ∧ x < 4294967296
  len := fun h => by rw [h.1]; rfl
  one := fun h => by rw [h.1]; simp [Value.oneCell']
  mono := fun h _ => h
/-- Types. -/
def kTy : Kind Ty where
  n := 2
  C := fun _ _ cs t => cs = [.bool t.sec, .int .i64 t.len]
  len := fun h => by rw [h]; rfl
  one := fun h => by rw [h]; simp [Value.oneCell']
  mono := fun h _ => h
/-- The cells of an instruction. -/
def irCells (x : Ir) (a : Option Addr) (c : Nat) : List Value := [.int .i64 x.kind, .int .i64 x.op, .int .i64 x.d, .int .i64 x.a, .int .i64 x.b, .int .i64 x.c, .int .u32 (x.n : Int), .string (bs x.name), .slice a x.args.length c]
/-- Instructions. -/
def kIr : Kind Ir where
  n := 9
  C := fun w S cs x => ∃ a c, cs = irCells x a c ∧ x.args.length ≤ c ∧ x.n < 4294967296 ∧ kInt.row w S a x.args
  len := fun h => by obtain ⟨a, c, rfl, _⟩ := h; rfl
  one := fun h => by obtain ⟨a, c, rfl, _⟩ := h; simp [irCells, Value.oneCell']
  mono := fun h hg => by obtain ⟨a, c, rfl, hc, hn, hr⟩ := h; exact ⟨a, c, rfl, hc, hn, kInt.row_mono (by decide) hr hg⟩
/-- The cells of a function. -/
def coCells (x : Co) (pa : Option Addr) (pc : Nat) (la : Option Addr) (lc : Nat) : List Value := [.string (bs x.name), .slice pa x.ps.length pc, .int .i64 x.regs, .int .i64 x.cells, .slice la x.l.length lc]
/-- What a function leans on. -/
structure CoIn (w : World) (S : Nat → Prop) (x : Co) (pa : Option Addr) (pc : Nat) (la : Option Addr) (lc : Nat) : Prop where
  pc : x.ps.length ≤ pc
  lc : x.l.length ≤ lc
  ps : kTy.row w S pa x.ps
  l : kIr.row w S la x.l
theorem CoIn.mono {w w' : World} {S T : Nat → Prop} {x : Co} {pa la : Option Addr} {pc lc : Nat} (h : CoIn w S x pa pc la lc) (hg : Goes w w' S T) : CoIn w' T x pa pc la lc :=
  ⟨h.pc, h.lc, kTy.row_mono (by decide) h.ps hg, kIr.row_mono (by decide) h.l hg⟩
/-- Functions. -/
def kCo : Kind Co where
  n := 5
  C := fun w S cs x => ∃ pa pc la lc, cs = coCells x pa pc la lc ∧ CoIn w S x pa pc la lc
  len := fun h => by obtain ⟨pa, pc, la, lc, rfl, _⟩ := h; rfl
  one := fun h => by obtain ⟨pa, pc, la, lc, rfl, _⟩ := h; simp [coCells, Value.oneCell']
  mono := fun h hg => by obtain ⟨pa, pc, la, lc, rfl, hi⟩ := h; exact ⟨pa, pc, la, lc, rfl, hi.mono hg⟩

theorem Kind.row_at {α : Type} (K : Kind α) {w : World} {S : Nat → Prop} : ∀ {l : List α} {a : Option Addr}, K.row w S a l → ∀ (k : Nat) (x : α), l[k]? = some x →
    ∃ b o cs, a = some ⟨b, o, none⟩ ∧ S b ∧ (∀ j u, cs[j]? = some u → w.cell? ⟨b, o + k * K.n + j, none⟩ = some u) ∧ K.C w S cs x
  | [], _, _, _, _, h => by simp at h
  | y :: l, a, hr, 0, x, h => by
    obtain ⟨b, o, cs, rfl, hS, hc, hC, _⟩ := hr
    have : y = x := by simpa using h
    subst this
    exact ⟨b, o, cs, rfl, hS, fun j u hj => by rw [Nat.zero_mul, Nat.add_zero]; exact hc j u hj, hC⟩
  | y :: l, a, hr, k + 1, x, h => by
    obtain ⟨b, o, cs, rfl, hS, hc, hC, hr⟩ := hr
    obtain ⟨b', o', cs', e, hS', hc', hC'⟩ := Kind.row_at K hr k x (by simpa using h)
    have e' : b' = b ∧ o' = o + K.n := by simpa [eq_comm] using e
    obtain ⟨rfl, rfl⟩ := e'
    refine ⟨b', o, cs', rfl, hS', fun j u hj => ?_, hC'⟩
    have := hc' j u hj
    rw [show o + K.n + k * K.n + j = o + (k + 1) * K.n + j by rw [Nat.succ_mul]; omega] at this
    exact this
theorem int_at {w : World} {S : Nat → Prop} {a : Option Addr} {l : List Int} (h : kInt.row w S a l) (k : Nat) (hk : k < l.length) :
    ∃ b o, a = some ⟨b, o, none⟩ ∧ S b ∧ b < w.heap.size ∧ w.cell? ⟨b, o + k, none⟩ = some (.int .i64 l[k]) := by
  obtain ⟨b, o, cs, rfl, hS, hc, rfl⟩ := kInt.row_at h k l[k] (List.getElem?_eq_getElem hk)
  have h0 := hc 0 _ rfl
  have e : kInt.n = 1 := rfl
  rw [e, Nat.mul_one, Nat.add_zero] at h0
  exact ⟨b, o, rfl, hS, World.block_lt_of_cell? w _ h0, h0⟩
theorem wd_at {w : World} {S : Nat → Prop} {a : Option Addr} {l : List Nat} (h : kWd.row w S a l) (k : Nat) (hk : k < l.length) :
    ∃ b o, a = some ⟨b, o, none⟩ ∧ S b ∧ b < w.heap.size ∧ w.cell? ⟨b, o + k, none⟩ = some (.int .u32 (l[k] : Int)) ∧ l[k] < 4294967296 := by
  obtain ⟨b, o, cs, rfl, hS, hc, rfl, hlt⟩ := kWd.row_at h k l[k] (List.getElem?_eq_getElem hk)
  have h0 := hc 0 _ rfl
  have e : kWd.n = 1 := rfl
  rw [e, Nat.mul_one, Nat.add_zero] at h0
  exact ⟨b, o, rfl, hS, World.block_lt_of_cell? w _ h0, h0, hlt⟩
theorem ty_at {w : World} {S : Nat → Prop} {a : Option Addr} {l : List Ty} (h : kTy.row w S a l) (k : Nat) (hk : k < l.length) :
    ∃ b o, a = some ⟨b, o, none⟩ ∧ S b ∧ b < w.heap.size ∧ w.cell? ⟨b, o + k * 2, none⟩ = some (.bool l[k].sec) ∧ w.cell? ⟨b, o + k * 2 + 1, none⟩ = some (.int .i64 l[k].len) := by
  obtain ⟨b, o, cs, rfl, hS, hc, rfl⟩ := kTy.row_at h k l[k] (List.getElem?_eq_getElem hk)
  have h0 := hc 0 _ rfl
  have h1 := hc 1 _ rfl
  exact ⟨b, o, rfl, hS, World.block_lt_of_cell? w _ h0, h0, h1⟩
/-- An instruction lies at a place. -/
structure IrAt (w : World) (b o : Nat) (x : Ir) (a : Option Addr) (c : Nat) : Prop where
  c0 : w.cell? ⟨b, o, none⟩ = some (.int .i64 x.kind)
  c1 : w.cell? ⟨b, o + 1, none⟩ = some (.int .i64 x.op)
  c2 : w.cell? ⟨b, o + 2, none⟩ = some (.int .i64 x.d)
  c3 : w.cell? ⟨b, o + 3, none⟩ = some (.int .i64 x.a)
  c4 : w.cell? ⟨b, o + 4, none⟩ = some (.int .i64 x.b)
  c5 : w.cell? ⟨b, o + 5, none⟩ = some (.int .i64 x.c)
  c6 : w.cell? ⟨b, o + 6, none⟩ = some (.int .u32 (x.n : Int))
  c7 : w.cell? ⟨b, o + 7, none⟩ = some (.string (bs x.name))
  c8 : w.cell? ⟨b, o + 8, none⟩ = some (.slice a x.args.length c)
theorem IrAt.keep {w w' : World} {b o : Nat} {x : Ir} {a : Option Addr} {c : Nat} (h : IrAt w b o x a c) (hb : w'.heap[b]? = w.heap[b]?) : IrAt w' b o x a c := by
  constructor <;> rw [World.cell?_of_block hb]
  · exact h.c0
  · exact h.c1
  · exact h.c2
  · exact h.c3
  · exact h.c4
  · exact h.c5
  · exact h.c6
  · exact h.c7
  · exact h.c8
theorem ir_at {w : World} {S : Nat → Prop} {a : Option Addr} {l : List Ir} (h : kIr.row w S a l) (k : Nat) (hk : k < l.length) :
    ∃ b o ga gc, a = some ⟨b, o, none⟩ ∧ S b ∧ b < w.heap.size ∧ IrAt w b (o + k * 9) l[k] ga gc ∧ l[k].args.length ≤ gc ∧ l[k].n < 4294967296 ∧ kInt.row w S ga l[k].args := by
  obtain ⟨b, o, cs, rfl, hS, hc, ga, gc, rfl, hgc, hn, hr⟩ := kIr.row_at h k l[k] (List.getElem?_eq_getElem hk)
  have h0 := hc 0 _ rfl
  exact ⟨b, o, ga, gc, rfl, hS, World.block_lt_of_cell? w _ h0, ⟨h0, hc 1 _ rfl, hc 2 _ rfl, hc 3 _ rfl, hc 4 _ rfl, hc 5 _ rfl, hc 6 _ rfl, hc 7 _ rfl, hc 8 _ rfl⟩, hgc, hn, hr⟩
/-- A function lies at a place. -/
structure CoAt (w : World) (b o : Nat) (x : Co) (pa : Option Addr) (pc : Nat) (la : Option Addr) (lc : Nat) : Prop where
  c0 : w.cell? ⟨b, o, none⟩ = some (.string (bs x.name))
  c1 : w.cell? ⟨b, o + 1, none⟩ = some (.slice pa x.ps.length pc)
  c2 : w.cell? ⟨b, o + 2, none⟩ = some (.int .i64 x.regs)
  c3 : w.cell? ⟨b, o + 3, none⟩ = some (.int .i64 x.cells)
  c4 : w.cell? ⟨b, o + 4, none⟩ = some (.slice la x.l.length lc)
theorem CoAt.keep {w w' : World} {b o : Nat} {x : Co} {pa la : Option Addr} {pc lc : Nat} (h : CoAt w b o x pa pc la lc) (hb : w'.heap[b]? = w.heap[b]?) : CoAt w' b o x pa pc la lc := by
  constructor <;> rw [World.cell?_of_block hb]
  · exact h.c0
  · exact h.c1
  · exact h.c2
  · exact h.c3
  · exact h.c4
theorem co_at {w : World} {S : Nat → Prop} {a : Option Addr} {l : List Co} (h : kCo.row w S a l) (k : Nat) (hk : k < l.length) :
    ∃ b o pa pc la lc, a = some ⟨b, o, none⟩ ∧ S b ∧ b < w.heap.size ∧ CoAt w b (o + k * 5) l[k] pa pc la lc ∧ CoIn w S l[k] pa pc la lc := by
  obtain ⟨b, o, cs, rfl, hS, hc, pa, pc, la, lc, rfl, hi⟩ := kCo.row_at h k l[k] (List.getElem?_eq_getElem hk)
  have h0 := hc 0 _ rfl
  exact ⟨b, o, pa, pc, la, lc, rfl, hS, World.block_lt_of_cell? w _ h0, ⟨h0, hc 1 _ rfl, hc 2 _ rfl, hc 3 _ rfl, hc 4 _ rfl⟩, hi⟩
theorem bl_then {a b c : World} (h : Below a.heap.size a b) (k : Below b.heap.size b c) : Below a.heap.size a c := Kept.to_below (Below.to_kept (Below.kept h (fun _ => False)) k) (fun _ h => False.elim h)
theorem bl_alloc {a b : World} (h : Below a.heap.size a b) (o : Obj) : Below a.heap.size a (b.alloc o) := bl_then h ((Below.refl _ _).alloc (Nat.le_refl _) o)
theorem bl_set {a b : World} (h : Below a.heap.size a b) (k o : Nat) (v : Value) (hk : a.heap.size ≤ k) : Below a.heap.size a (b.setCell ⟨k, o, none⟩ v) := Kept.to_below ((Below.kept h (fun _ => False)).set_new k o v hk) (fun _ h => False.elim h)
theorem bs_tl (a : List UInt8) : (bs a).toList = a := by rw [ByteArray.toList_eq, bs_list]
theorem name_bs (l : List UInt8) (w : World) : Calls Try.prog 43 #[.string (bs l)] w fun e w' => e = .returned (.bool (isName l)) ∧ w' = w := by
  have := name_any (bs l) w
  rw [bs_list] at this
  exact this
end Go.Proofs.Ytkbanngbchhgaaa
