/- WHAT COMES OF A RUN, in plain Lean; how a run lies in memory. -/
import Derived.Test.YtndmkfmpdnoliaaIRight
import Derived.Laws.Tables
import Derived.Laws.ResultCell
namespace Go.Proofs.Ytndmkfmpdnoliaa
open Go.ChangeShapes Go.WideShapes Go.ChangeAt Go.RowKit

/-- What the functions of one run have in common. -/
structure St where
  left : Nat
  br : List Int
  wrong : Int
/-- A function that is being run. -/
structure Fr where
  regs : List Nat
  cells : List Nat
  next : Nat
  ended : Bool
  result : Nat
def look (P : List Co) (nm : List UInt8) : Option Co := P.find? fun c => c.name == nm
/-- The arguments of words, and those of arrays. -/
def splitA : List Ty → List Nat → List Nat × List Nat
  | [], _ => ([], [])
  | t :: ps, ar => if t.len = 0 then (ar.headD 0 :: (splitA ps ar.tail).1, (splitA ps ar.tail).2) else ((splitA ps (ar.drop t.len.toNat)).1, ar.take t.len.toNat ++ (splitA ps (ar.drop t.len.toNat)).2)
def fill (l : List Nat) (n : Nat) : List Nat := l ++ List.replicate (n - l.length) 0
/-- A function ahead of its first instruction. -/
def startF (c : Co) (ar : List Nat) : Fr := ⟨fill (splitA c.ps ar).1 c.regs.toNat, fill (splitA c.ps ar).2 c.cells.toNat, 0, false, 0⟩
def at0 (l : List Nat) (i : Int) : Nat := l.getD i.toNat 0
def noIr : Ir := ⟨0, 0, 0, 0, 0, 0, 0, [], []⟩
/-- What an instruction does; the next place is set already. -/
def doIr (P : List Co) (rec : Nat → Co → Fr → St → Fr × St) (deep : Nat) (x : Ir) (fr : Fr) (st : St) : Fr × St :=
  if x.kind = 1 then ({ fr with regs := fr.regs.set x.d.toNat x.n }, st)
  else if x.kind = 2 then ({ fr with regs := fr.regs.set x.d.toNat (at0 fr.regs x.a) }, st)
  else if x.kind = 3 then ({ fr with regs := fr.regs.set x.d.toNat (opz x.op (at0 fr.regs x.a) (at0 fr.regs x.b)).toNat }, st)
  else if x.kind = 4 then ({ fr with regs := fr.regs.set x.d.toNat (if at0 fr.regs x.a = 0 then at0 fr.regs x.c else at0 fr.regs x.b) }, st)
  else if x.kind = 5 then ({ fr with regs := fr.regs.set x.d.toNat (fr.cells.getD x.n 0) }, st)
  else if x.kind = 6 then ({ fr with cells := fr.cells.set x.n (at0 fr.regs x.a) }, st)
  else if x.kind = 7 then
    match look P x.name with
    | none => (fr, { st with wrong := 8 })
    | some c => if c.ps.length ≠ x.args.length ∨ 0 < cellsN c.ps then (fr, { st with wrong := 10 }) else if deep = 32 then (fr, { st with wrong := 19 })
      else ({ fr with regs := fr.regs.set x.d.toNat (rec (deep + 1) c (startF c (x.args.map (at0 fr.regs))) st).1.result }, (rec (deep + 1) c (startF c (x.args.map (at0 fr.regs))) st).2)
  else if x.kind = 8 then ({ fr with next := x.c.toNat }, st)
  else if x.kind = 9 then (if at0 fr.regs x.a = 0 then ({ fr with next := x.c.toNat }, { st with br := st.br ++ [0] }) else (fr, { st with br := st.br ++ [1] }))
  else ({ fr with result := at0 fr.regs x.a, ended := true }, st)
/-- One instruction. -/
def stepR (P : List Co) (rec : Nat → Co → Fr → St → Fr × St) (deep : Nat) (x : Ir) (fr : Fr) (st : St) : Fr × St :=
  if st.left = 0 then (fr, { st with wrong := 19 }) else doIr P rec deep x { fr with next := fr.next + 1 } { st with left := st.left - 1 }
/-- So many instructions at most, up to the end. -/
def runF (P : List Co) : Nat → Nat → Co → Fr → St → Fr × St
  | 0 => fun _ _ fr st => (fr, st)
  | f + 1 => fun deep c fr st => if fr.ended = true ∨ st.wrong ≠ 0 then (fr, st) else runF P f deep c (stepR P (runF P f) deep (c.l.getD fr.next noIr) fr st).1 (stepR P (runF P f) deep (c.l.getD fr.next noIr) fr st).2
/-- What a run tells: the result, the cells, the branches, the error. -/
def runR (P : List Co) (nm : List UInt8) (ar : List Nat) : Nat × List Nat × List Int × Int :=
  if P.all (fun c => decide ((rightR c).1 = 0)) = false then (0, [], [], 6)
  else if (P.map Co.name).Nodup then
    match look P nm with
    | none => (0, [], [], 22)
    | some c => if (ar.length : Int) ≠ wordsN c.ps + cellsN c.ps then (0, [], [], 1)
      else if (runF P 60001 0 c (startF c ar) ⟨60000, [], 0⟩).2.wrong ≠ 0 then (0, [], [], (runF P 60001 0 c (startF c ar) ⟨60000, [], 0⟩).2.wrong)
      else ((runF P 60001 0 c (startF c ar) ⟨60000, [], 0⟩).1.result, (runF P 60001 0 c (startF c ar) ⟨60000, [], 0⟩).1.cells.take (cellsN c.ps).toNat, (runF P 60001 0 c (startF c ar) ⟨60000, [], 0⟩).2.br, 0)
  else (0, [], [], 9)

/-- Words ar cells. -/
def wv (n : Nat) : Value := .int .u32 (n : Int)
abbrev wvs (l : List Nat) : Array Value := (l.map wv).toArray
/-- A frame in memory: its own block F, its registers' G, its cells' C. -/
structure FrM (w : World) (R F G C : Nat) (fr : Fr) : Prop where
  f : w.heap[F]? = some (.cells #[.pointer (some ⟨R, 0, none⟩), .slice (some ⟨G, 0, none⟩) fr.regs.length fr.regs.length, .slice (some ⟨C, 0, none⟩) fr.cells.length fr.cells.length, .int .i64 (fr.next : Int), .bool fr.ended, .int .u32 (fr.result : Int)] 67)
  g : w.heap[G]? = some (.cells (wvs fr.regs) 26)
  c : w.heap[C]? = some (.cells (wvs fr.cells) 26)
  fg : F ≠ G
  fc : F ≠ C
  gc : G ≠ C
  rf : R < F
  rg : R < G
  rc : R < C
  regs : ∀ n ∈ fr.regs, n < 4294967296
  cells : ∀ n ∈ fr.cells, n < 4294967296
  res : fr.result < 4294967296
/-- A run in memory: its block R, the map of functions KM, the map of deeds DM, the branches v. -/
structure RnM (w : World) (R KM DM : Nat) (deep : Nat) (st : St) (v : Value) : Prop where
  r : w.heap[R]? = some (.cells #[.map (some KM), .map (some DM), .int .i64 (60000 - (st.left : Int)), .int .i64 (deep : Int), v, .int .i64 st.wrong] 62)
  own : w.ownsRow (R + 1) 3 1 v st.br.length (st.br.map (Value.int .i64))
  left : st.left ≤ 60000
  br : st.br.length + st.left ≤ 60000
/-- What a run may touch of what there was. -/
def Touch (R F G C : Nat) (v : Value) (k : Nat) : Prop := k = R ∨ k = F ∨ k = G ∨ k = C ∨ v.ownBlock = some k
/-- The branches lie where they lay, or in a new block. -/
def Fresh (w : World) (v v' : Value) : Prop := ∀ g, v'.ownBlock = some g → v.ownBlock = some g ∨ w.heap.size ≤ g
/-- The branches lie apart from a frame. -/
def Apart (F G C : Nat) (v : Value) : Prop := ∀ g, v.ownBlock = some g → g ≠ F ∧ g ≠ G ∧ g ≠ C
/-- What an instruction, or many, have done. -/
structure Did (w w' : World) (R KM DM F G C : Nat) (deep : Nat) (v v' : Value) (fr : Fr) (st : St) : Prop where
  rn : RnM w' R KM DM deep st v'
  fr : FrM w' R F G C fr
  kept : Kept (Touch R F G C v) w w'
  fresh : Fresh w v v'
  apart : Apart F G C v'
theorem Did.trans {w w1 w2 : World} {R KM DM F G C deep deep' : Nat} {v v1 v2 : Value} {fr fr' : Fr} {st st' : St} (h : Did w w1 R KM DM F G C deep v v1 fr st) (k : Did w1 w2 R KM DM F G C deep' v1 v2 fr' st') : Did w w2 R KM DM F G C deep' v v2 fr' st' := by
  refine ⟨k.rn, k.fr, ⟨k.kept.os.trans h.kept.os, k.kept.tape.trans h.kept.tape, k.kept.output.trans h.kept.output, Nat.le_trans h.kept.size k.kept.size, fun i hi hm => ?_⟩, fun g hg => ?_, k.apart⟩
  · rw [k.kept.block i (Nat.lt_of_lt_of_le hi h.kept.size) ?_]
    · exact h.kept.block i hi hm
    · rintro (e | e | e | e | e)
      · exact hm (.inl e)
      · exact hm (.inr (.inl e))
      · exact hm (.inr (.inr (.inl e)))
      · exact hm (.inr (.inr (.inr (.inl e))))
      · rcases h.fresh i e with e | e
        · exact hm (.inr (.inr (.inr (.inr e))))
        · omega
  · rcases k.fresh g hg with e | e
    · exact h.fresh g e
    · right; have := h.kept.size; omega
theorem wvs_at {l : List Nat} {k : Nat} (h : k < l.length) : (wvs l)[k]? = some (.int .u32 (l[k] : Int)) := by simp [wvs, h, wv]
theorem wvs_set (l : List Nat) (k n : Nat) : (wvs l).setIfInBounds k (wv n) = wvs (l.set k n) := by simp [wvs]
theorem at0_lt {l : List Nat} {k : Nat} (h : k < l.length) : at0 l (k : Int) = l[k] := by simp [at0, List.getD, h]
theorem row_cell {w : World} {b : Nat} {l : List Nat} {t : TypeId} (h : w.heap[b]? = some (.cells (wvs l) t)) {k : Nat} (hk : k < l.length) : w.cell? ⟨b, k, none⟩ = some (.int .u32 (l[k] : Int)) := by
  have := wvs_at hk
  simp only [World.cell?, h]
  exact this
theorem row_free {w : World} {b : Nat} {cs : Array Value} {t : TypeId} (h : w.heap[b]? = some (.cells cs t)) (k : Nat) : w.frozen? ⟨b, k, none⟩ = false := by
  simp [World.frozen?, h]
end Go.Proofs.Ytndmkfmpdnoliaa
