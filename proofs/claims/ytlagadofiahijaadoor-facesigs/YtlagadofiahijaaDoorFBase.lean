/- WHAT ALL TEXTS OF THIS STAGE USE: texts as lists of bytes; what a call keeps of the world; how data lie in memory, whatever their sort ('Kind'), and lists under way. -/
import Derived.Test.YtlagadofiahijaaDoorRows
import Derived.WalkKit
import Derived.ProofKit
import Derived.OpenShut
import Derived.ShutString
import Derived.WalkLawsBesides
import Derived.Deep.QuietTactic
import Derived.BigQuiet
import Derived.Below
import Derived.Deep.AppendLies
import Derived.OwnWalk
import Derived.BigCall
import Derived.Laws.NewBlocks
namespace Go.Proofs.YtlagadofiahijaaDoor
open Go.ChangeShapes Go.WideShapes Go.ChangeAt Go.RowKit

def bs (l : List UInt8) : ByteArray := ⟨l.toArray⟩
theorem bs_of (s : ByteArray) : bs s.data.toList = s := by cases s; simp [bs]
theorem bs_list (l : List UInt8) : (bs l).data.toList = l := by simp [bs]
theorem bs_size (l : List UInt8) : (bs l).size = l.length := by simp [bs, ByteArray.size]
theorem bs_inj {a b : List UInt8} (h : bs a = bs b) : a = b := by rw [← bs_list a, h, bs_list]
theorem ret_bool {a b : Bool} (h : a = b) : Ending.returned (.bool a) = .returned (.bool b) := by rw [h]


structure Kept (M : Nat → Prop) (w w' : World) : Prop where
  os : w'.os = w.os
  tape : w'.tape = w.tape
  output : w'.output = w.output
  size : w.heap.size ≤ w'.heap.size
  block : ∀ k, k < w.heap.size → ¬ M k → w'.heap[k]? = w.heap[k]?

theorem Kept.refl (M : Nat → Prop) (w : World) : Kept M w w := ⟨rfl, rfl, rfl, Nat.le_refl _, fun _ _ _ => rfl⟩
theorem Kept.trans {M : Nat → Prop} {a b c : World} (h : Kept M a b) (k : Kept M b c) : Kept M a c :=
  ⟨k.os.trans h.os, k.tape.trans h.tape, k.output.trans h.output, Nat.le_trans h.size k.size, fun i hi hm => (k.block i (Nat.lt_of_lt_of_le hi h.size) hm).trans (h.block i hi hm)⟩
theorem Kept.mono {M M' : Nat → Prop} {a b : World} (h : Kept M a b) (hM : ∀ k, k < a.heap.size → M k → M' k) : Kept M' a b :=
  ⟨h.os, h.tape, h.output, h.size, fun k hk hm => h.block k hk fun x => hm (hM k hk x)⟩
theorem Kept.below {M : Nat → Prop} {a b : World} {B : Nat} (h : Kept M a b) (hB : B ≤ a.heap.size) (hM : ∀ k, M k → B ≤ k) : Below B a b :=
  ⟨h.os, h.tape, h.output, h.size, fun k hk => h.block k (by omega) fun x => by have := hM k x; omega⟩
theorem Below.kept {a b : World} (h : Below a.heap.size a b) (M : Nat → Prop) : Kept M a b := ⟨h.os, h.tape, h.output, h.size, fun k hk _ => h.block k hk⟩
theorem Kept.of_grown {a b : World} {row : Option Nat} (h : a.grownBy b row) : Kept (fun k => row = some k) a b := ⟨h.os, h.tape, h.output, h.size, fun k hk hm => h.block k hk fun x => hm x.symm⟩
theorem Kept.setCell (w : World) (p : Addr) (v : Value) : Kept (fun k => k = p.block) w (w.setCell p v) :=
  ⟨rfl, rfl, rfl, by simp [World.setCell], fun k _ hm => Below.heap_setCell _ _ _ _ hm⟩
theorem Kept.set (w : World) (b o : Nat) (v : Value) : Kept (fun k => k = b) w (w.setCell ⟨b, o, none⟩ v) := Kept.setCell w ⟨b, o, none⟩ v
theorem Kept.alloc (w : World) (o : Obj) (M : Nat → Prop) : Kept M w (w.alloc o) := Below.kept ((Below.refl _ _).alloc (Nat.le_refl _) _) M
theorem Kept.drew {M : Nat → Prop} {a b : World} (h : Kept M a b) : Kept M a b.drew := ⟨h.os, h.tape, h.output, h.size, h.block⟩

theorem setCell_at {w : World} {b o : Nat} {v : Value} {c : Array Value} {e : TypeId} {f : Nat × Nat} (h : w.heap[b]? = some (.cells c e f)) :
    (w.setCell ⟨b, o, none⟩ v).heap[b]? = some (.cells (c.setIfInBounds o v) e f) := by
  simp [World.setCell, Array.getElem?_modify, h]
theorem setCell_other {w : World} {b o k : Nat} {v : Value} (h : k ≠ b) : (w.setCell ⟨b, o, none⟩ v).heap[k]? = w.heap[k]? := Below.heap_setCell _ _ _ _ h

theorem lt_of_some {w : World} {b : Nat} {o : Obj} (h : w.heap[b]? = some o) : b < w.heap.size := (Array.getElem?_eq_some_iff.1 h).1

theorem two_new (w : World) (o1 o2 : Obj) : Below w.heap.size w ((w.alloc o1).alloc o2).drew ∧ ((w.alloc o1).alloc o2).drew.heap[w.heap.size]? = some o1 ∧ ((w.alloc o1).alloc o2).drew.heap.size = w.heap.size + 2 := by
  refine ⟨(((Below.refl _ _).alloc (Nat.le_refl _) _).alloc (by simp) _).drew, ?_, by simp⟩
  show ((w.alloc o1).alloc o2).heap[w.heap.size]? = _
  rw [heap_alloc_old (w.alloc o1) o2 (by simp)]
  exact heap_alloc_new w o1

theorem cells4 {w : World} {b : Nat} {x0 x1 x2 x3 : Value} {t : TypeId} {f : Nat × Nat} (h : w.heap[b]? = some (.cells #[x0, x1, x2, x3] t f)) :
    w.cell? ⟨b, 0, none⟩ = some x0 ∧ w.cell? ⟨b, 1, none⟩ = some x1 ∧ w.cell? ⟨b, 2, none⟩ = some x2 ∧ w.cell? ⟨b, 3, none⟩ = some x3 := by
  simp [World.cell?, h]

theorem alloc_cell {w : World} {a : Addr} {v : Value} (o : Obj) (h : w.cell? a = some v) : (w.alloc o).cell? a = some v := by
  have hb := World.block_lt_of_cell? w a h
  rw [World.cell?_of_block (w := w) (heap_alloc_old w o hb)]
  exact h

theorem own_lt {w : World} {base : Nat} {e : TypeId} {size : Nat} {v : Value} {n : Nat} {xs : List Value} (h : w.ownsRow base e size v n xs) (b : Nat) (hb : w.heap.size ≤ b) : v.ownBlock ≠ some b := by
  intro e
  have := (h.lt b e).2
  omega

theorem own_kept {M : Nat → Prop} {w w' : World} {base : Nat} {e : TypeId} {size : Nat} {v : Value} {n : Nat} {xs : List Value} (h : w.ownsRow base e size v n xs) (hk : Kept M w w') (hM : ∀ g, v.ownBlock = some g → ¬ M g) : w'.ownsRow base e size v n xs := by
  refine ⟨h.1, ?_⟩
  rcases h.2 with h0 | ⟨g, cap, cur, rfl, hb, hg, rest⟩
  · exact .inl h0
  · exact .inr ⟨g, cap, cur, rfl, hb, by rw [hk.block g (lt_of_some hg) (hM g rfl)]; exact hg, rest⟩

/-- Four cells behind xs are written over. -/
theorem set4 (cur : Array Value) (xs : List Value) (n : Nat) (z0 z1 z2 z3 a b c d : Value) (hx : xs.length = n * 4) (h : cur.toList.take ((n + 1) * 4) = xs ++ [z0, z1, z2, z3]) :
    ((((cur.setIfInBounds (n * 4) a).setIfInBounds (n * 4 + 1) b).setIfInBounds (n * 4 + 2) c).setIfInBounds (n * 4 + 3) d).toList.take ((n + 1) * 4) = xs ++ [a, b, c, d] := by
  obtain ⟨t, h1⟩ : ∃ t, cur.toList = xs ++ ([z0, z1, z2, z3] ++ t) := ⟨cur.toList.drop ((n + 1) * 4), by rw [← List.append_assoc, ← h, List.take_append_drop]⟩
  have key : ∀ (l : List Value) (k : Nat) (v : Value), (xs ++ l).set (n * 4 + k) v = xs ++ l.set k v := fun l k v => by
    rw [List.set_append_right _ _ (by omega)]
    congr 2
    omega
  have key0 : ∀ (l : List Value) (v : Value), (xs ++ l).set (n * 4) v = xs ++ l.set 0 v := fun l v => key l 0 v
  simp only [Array.toList_setIfInBounds, h1]
  rw [key0, key, key, key]
  show ((xs ++ ([a, b, c, d] ++ _)).take ((n + 1) * 4)) = _
  rw [← List.append_assoc]
  exact List.take_left' (by simp; omega)

theorem Kept.alloc_r {M : Nat → Prop} {a b : World} (h : Kept M a b) (o : Obj) : Kept M a (b.alloc o) := h.trans (Kept.alloc b o M)
theorem Kept.set_new {M : Nat → Prop} {a b : World} (h : Kept M a b) (k o : Nat) (v : Value) (hk : a.heap.size ≤ k) : Kept M a (b.setCell ⟨k, o, none⟩ v) :=
  ⟨h.os, h.tape, h.output, by simpa [World.setCell] using h.size, fun i hi hm => by rw [setCell_other (by omega)]; exact h.block i hi hm⟩
theorem Kept.set_in {M : Nat → Prop} {a b : World} (h : Kept M a b) (k o : Nat) (v : Value) (hk : M k) : Kept M a (b.setCell ⟨k, o, none⟩ v) :=
  ⟨h.os, h.tape, h.output, by simpa [World.setCell] using h.size, fun i hi hm => by rw [setCell_other (fun e => hm (by rw [e]; exact hk))]; exact h.block i hi hm⟩
theorem Below.to_kept {a b c : World} {M : Nat → Prop} (h : Kept M a b) (k : Below b.heap.size b c) : Kept M a c := h.trans (Below.kept k M)
theorem Kept.cell {M : Nat → Prop} {a b : World} (h : Kept M a b) {k o : Nat} {v : Value} (hk : ¬ M k) (hc : a.cell? ⟨k, o, none⟩ = some v) : b.cell? ⟨k, o, none⟩ = some v := by
  rw [World.cell?_of_block (w := a) (h.block k (World.block_lt_of_cell? a _ hc) hk)]; exact hc
theorem Kept.to_below {M : Nat → Prop} {a b : World} (h : Kept M a b) (hM : ∀ k, M k → a.heap.size ≤ k) : Below a.heap.size a b := h.below (Nat.le_refl _) hM

theorem drewN_below (w : World) (n : Nat) : Below w.heap.size w (w.drewN n) := ⟨rfl, rfl, rfl, Nat.le_refl _, fun _ _ => rfl⟩

/-- Another world, in which the blocks of S are as they were, and count as T. -/
def Goes (w w' : World) (S T : Nat → Prop) : Prop := ∀ b, S b → b < w.heap.size → T b ∧ w'.heap[b]? = w.heap[b]?

structure Kind (α : Type) where
  n : Nat
  C : World → (Nat → Prop) → List Value → α → Prop
  len : ∀ {w S cs x}, C w S cs x → cs.length = n
  one : ∀ {w S cs x}, C w S cs x → ∀ u ∈ cs, u.oneCell' = true
  mono : ∀ {w w' S T cs x}, C w S cs x → Goes w w' S T → C w' T cs x

section
variable {α : Type} (K : Kind α)

/-- From an address on the data l lie. -/
def Kind.row (w : World) (S : Nat → Prop) : Option Addr → List α → Prop
  | _, [] => True
  | a, x :: l => ∃ b o cs, a = some ⟨b, o, none⟩ ∧ S b ∧ (∀ j u, cs[j]? = some u → w.cell? ⟨b, o + j, none⟩ = some u) ∧ K.C w S cs x ∧ Kind.row w S (some ⟨b, o + K.n, none⟩) l

theorem Kind.row_nil (w : World) (S : Nat → Prop) (a : Option Addr) : K.row w S a [] := trivial
theorem Kind.row_mono (hn : 0 < K.n) {w w' : World} {S T : Nat → Prop} : ∀ {l : List α} {a : Option Addr}, K.row w S a l → Goes w w' S T → K.row w' T a l
  | [], _, _, _ => trivial
  | x :: l, a, h, hg => by
    obtain ⟨b, o, cs, rfl, hS, hc, hC, hr⟩ := h
    have hl := K.len hC
    have hlt : b < w.heap.size := World.block_lt_of_cell? w _ (hc 0 cs[0] (List.getElem?_eq_getElem (by omega)))
    obtain ⟨hT, he⟩ := hg b hS hlt
    exact ⟨b, o, cs, rfl, hT, fun j u hj => by rw [World.cell?_of_block he]; exact hc j u hj, K.mono hC hg, Kind.row_mono hn hr hg⟩

/-- The cells of data, one behind the other. -/
def Kind.lay (w : World) (S : Nat → Prop) : List Value → List α → Prop
  | xs, [] => xs = []
  | xs, x :: l => ∃ cs ys, xs = cs ++ ys ∧ K.C w S cs x ∧ Kind.lay w S ys l
theorem Kind.lay_mono {w w' : World} {S T : Nat → Prop} : ∀ {l : List α} {xs : List Value}, K.lay w S xs l → Goes w w' S T → K.lay w' T xs l
  | [], _, h, _ => h
  | x :: l, xs, h, hg => by
    obtain ⟨cs, ys, rfl, hC, hr⟩ := h
    exact ⟨cs, ys, rfl, K.mono hC hg, Kind.lay_mono hr hg⟩
theorem Kind.lay_snoc {w : World} {S : Nat → Prop} {cs : List Value} {x : α} (hC : K.C w S cs x) : ∀ {l : List α} {xs : List Value}, K.lay w S xs l → K.lay w S (xs ++ cs) (l ++ [x])
  | [], xs, h => by cases h; exact ⟨cs, [], by simp, hC, rfl⟩
  | y :: l, xs, h => by
    obtain ⟨ds, ys, rfl, hD, hr⟩ := h
    exact ⟨ds, ys ++ cs, by simp, hD, Kind.lay_snoc hC hr⟩
theorem Kind.lay_row {w : World} {S T : Nat → Prop} (hST : ∀ b, S b → T b) (g : Nat) (hg : T g) : ∀ {l : List α} {xs : List Value} (o : Nat), K.lay w S xs l → (∀ j u, xs[j]? = some u → w.cell? ⟨g, o + j, none⟩ = some u) → K.row w T (some ⟨g, o, none⟩) l
  | [], _, _, _, _ => trivial
  | x :: l, xs, o, h, hc => by
    obtain ⟨cs, ys, rfl, hC, hr⟩ := h
    have hl := K.len hC
    refine ⟨g, o, cs, rfl, hg, fun j u hj => hc j u ?_, K.mono hC fun b hb _ => ⟨hST b hb, rfl⟩, Kind.lay_row hST g hg (o + K.n) hr fun j u hj => ?_⟩
    · have hlt : j < cs.length := by
        rcases Nat.lt_or_ge j cs.length with h | h
        · exact h
        · rw [List.getElem?_eq_none h] at hj; cases hj
      rw [List.getElem?_append_left hlt]; exact hj
    · have := hc (K.n + j) u (by rw [List.getElem?_append_right (by omega), hl, Nat.add_sub_cancel_left]; exact hj)
      rw [Nat.add_assoc]; exact this

/-- A list under way: v owns its row; what its data hold lies in S. -/
def Kind.own (t : TypeId) (w : World) (S : Nat → Prop) (base : Nat) (v : Value) (l : List α) : Prop := ∃ xs, w.ownsRow base t K.n v l.length xs ∧ K.lay w S xs l

/-- The slice v reads as the data l. -/
def Kind.rd (w : World) (S : Nat → Prop) (v : Value) (l : List α) : Prop := ∃ a c, v = .slice a l.length c ∧ K.row w S a l ∧ l.length ≤ c

theorem Kind.own_rd {t : TypeId} {w : World} {S T : Nat → Prop} {base : Nat} {v : Value} {l : List α} (h : K.own t w S base v l) (hST : ∀ b, S b → T b) (hT : ∀ g, v.ownBlock = some g → T g) : K.rd w T v l := by
  obtain ⟨xs, ho, hl⟩ := h
  rcases ho.2 with ⟨rfl, h0⟩ | ⟨g, cap, cur, rfl, hb, hg, hn, hm, hs, htk⟩
  · have : l = [] := List.eq_nil_of_length_eq_zero h0
    subst this
    exact ⟨none, 0, rfl, trivial, Nat.le_refl _⟩
  · refine ⟨some ⟨g, 0, none⟩, cap, rfl, K.lay_row hST g (hT g rfl) 0 hl fun j u hj => ?_, hn⟩
    have := ho.cells (g := g) rfl j u hj
    have e : (⟨g, 0, none⟩ : Addr).add j = ⟨g, 0 + j, none⟩ := by unfold Addr.add; split <;> simp_all
    rw [e] at this
    exact this
theorem Kind.rd_mono (hn : 0 < K.n) {w w' : World} {S T : Nat → Prop} {v : Value} {l : List α} (h : K.rd w S v l) (hg : Goes w w' S T) : K.rd w' T v l := by
  obtain ⟨a, c, rfl, hr, hc⟩ := h
  exact ⟨a, c, rfl, K.row_mono hn hr hg, hc⟩
theorem Kind.own_none (t : TypeId) (w : World) (S : Nat → Prop) (base : Nat) : K.own t w S base (.slice none 0 0) [] := ⟨[], World.ownsRow_nil _ _ _ _, rfl⟩
theorem Kind.own_form {t : TypeId} {w : World} {S : Nat → Prop} {base : Nat} {v : Value} {l : List α} (h : K.own t w S base v l) : ∃ x c, v = .slice x l.length c := by
  obtain ⟨xs, ho, _⟩ := h
  rcases ho.2 with ⟨rfl, h0⟩ | ⟨g, cap, cur, rfl, _⟩
  · exact ⟨Option.none, 0, by rw [h0]⟩
  · exact ⟨_, _, rfl⟩
/-- The blocks that a list under way may lean on. -/
def Own (base : Nat) (v : Value) (b : Nat) : Prop := base ≤ b ∧ v.ownBlock ≠ some b
/-- It stands while nothing of it is written. -/
theorem Kind.own_keep {t : TypeId} {w w' : World} {base : Nat} {v : Value} {l : List α} {M : Nat → Prop} (h : K.own t w (Own base v) base v l) (hk : Kept M w w') (hM : ∀ k, M k → k < base) : K.own t w' (Own base v) base v l := by
  obtain ⟨xs, ho, hl⟩ := h
  refine ⟨xs, own_kept ho hk fun g hg m => ?_, K.lay_mono hl fun b hb hlt => ⟨hb, hk.block b hlt fun m => ?_⟩⟩
  · have := hM g m; have := (ho.lt g hg).1; omega
  · have := hM b m; have := hb.1; omega
/-- Behind an append. -/
theorem Kind.own_append {t : TypeId} {w w0 w' : World} {base : Nat} {v v' : Value} {l : List α} {xs cs : List Value} {x : α} {n : Nat} (hxs : K.lay w (Own base v) xs l) (hC : K.C w (Own base v) cs x) (h0 : ∀ k, k < w.heap.size → w0.heap[k]? = w.heap[k]?) (hsz : w.heap.size ≤ w0.heap.size)
    (hown : w'.ownsRow base t K.n v' n (xs ++ cs)) (hn : n = l.length + 1) (hg : w0.grownBy w' v.ownBlock) (hv : ∀ b, v'.ownBlock = some b → v.ownBlock = some b ∨ w0.heap.size ≤ b) : K.own t w' (Own base v') base v' (l ++ [x]) := by
  have hgo : Goes w w' (Own base v) (Own base v') := fun b hb hlt => ⟨⟨hb.1, fun e => ?_⟩, by rw [hg.block b (by omega) fun e => hb.2 e.symm]; exact h0 b hlt⟩
  · exact ⟨xs ++ cs, by simpa [hn] using hown, K.lay_snoc (K.mono hC hgo) (K.lay_mono hxs hgo)⟩
  · rcases hv b e with h | h
    · exact hb.2 h
    · omega
end

/-- Strings. -/
def kStr : Kind (List UInt8) where
  n := 1
  C := fun _ _ cs s => cs = [.string (bs s)]
  len := fun h => by rw [h]; rfl
  one := fun h => by rw [h]; simp [Value.oneCell']
  mono := fun h _ => h


theorem Kind.own_lt {α : Type} (K : Kind α) {t : TypeId} {w : World} {S : Nat → Prop} {base : Nat} {v : Value} {l : List α} (h : K.own t w S base v l) : ∀ g, v.ownBlock = some g → base ≤ g ∧ g < w.heap.size := by
  obtain ⟨xs, ho, _⟩ := h
  exact fun g hg => ho.lt g hg
/-- Later changes that touch new blocks alone. -/
theorem Kept.past {M M' : Nat → Prop} {a b c : World} (h : Kept M a b) (k : Kept M' b c) (hM : ∀ i, M' i → a.heap.size ≤ i) : Kept M a c :=
  ⟨k.os.trans h.os, k.tape.trans h.tape, k.output.trans h.output, Nat.le_trans h.size k.size, fun i hi hm => (k.block i (Nat.lt_of_lt_of_le hi h.size) fun m => by have := hM i m; omega).trans (h.block i hi hm)⟩
/-- Behind an append to a list under way. -/
theorem Kind.append_all {α : Type} (K : Kind α) {t : TypeId} {w1 w3 : World} {N : Nat} {v : Value} {acc : List α} {xs cs : List Value} {x : α} {o : Obj} {g cap : Nat} (hlay : K.lay w1 (Own N v) xs acc) (hC : K.C w1 (Own N v) cs x)
    (hown : w3.ownsRow N t K.n (.slice (some ⟨g, 0, none⟩) (acc.length + 1) cap) (acc.length + 1) (xs ++ cs)) (hgrow : (w1.alloc o).grownBy w3 v.ownBlock) (hat : v.ownBlock = some g ∨ g = w1.heap.size + 1) :
    K.own t w3 (Own N (.slice (some ⟨g, 0, none⟩) (acc.length + 1) cap)) N (.slice (some ⟨g, 0, none⟩) (acc.length + 1) cap) (acc ++ [x]) ∧ Kept (fun k => v.ownBlock = some k) w1 w3 := by
  refine ⟨K.own_append hlay hC (fun k hk => heap_alloc_old w1 o hk) (by simp) hown rfl hgrow fun b e => ?_, (Kept.alloc w1 o _).trans (Kept.of_grown hgrow)⟩
  have eb : g = b := by simpa [Value.ownBlock] using e
  subst eb
  rcases hat with h | h
  · exact .inl h
  · exact .inr (by simp; omega)
end Go.Proofs.YtlagadofiahijaaDoor
