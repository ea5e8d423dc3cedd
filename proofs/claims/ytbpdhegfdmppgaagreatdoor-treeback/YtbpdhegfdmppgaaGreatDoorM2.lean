/- Texts of this proof, put together: Heap, Kept. -/
import Derived.Test.YtbpdhegfdmppgaaGreatDoorM1
import Derived.WalkKit
import Derived.Below
import Derived.Deep.AppendLies

/- WHERE NODES LIE IN MEMORY: 'Rd S w v l': in w the slice v reads as the nodes l, all of its rows in blocks of S; a row under way ('Kids'). -/
namespace Go.Proofs.YtbpdhegfdmppgaaGreatDoor
open Go.RowKit

def bs (l : List UInt8) : ByteArray := ⟨l.toArray⟩
theorem bs_of (s : ByteArray) : bs s.data.toList = s := by cases s; simp [bs]
theorem bs_list (l : List UInt8) : (bs l).data.toList = l := by simp [bs]
theorem bs_size (l : List UInt8) : (bs l).size = l.length := by simp [bs, ByteArray.size]
theorem bs_inj {a b : List UInt8} (h : bs a = bs b) : a = b := by rw [← bs_list a, h, bs_list]

/-- From an address on the nodes l lie, four cells each. -/
inductive Row (S : Nat → Prop) (w : World) : Option Addr → List Nd → Prop
  | nil (a : Option Addr) : Row S w a []
  | cons (b o : Nat) (il : Bool) (wd : List UInt8) (ks : List Nd) (p : Int) (r : List Nd) (a : Option Addr) (c : Nat) (hc : ks.length ≤ c)
      (hS : S b) (h0 : w.cell? ⟨b, o, none⟩ = some (.bool il)) (h1 : w.cell? ⟨b, o + 1, none⟩ = some (.string (bs wd)))
      (h2 : w.cell? ⟨b, o + 2, none⟩ = some (.slice a ks.length c)) (h3 : w.cell? ⟨b, o + 3, none⟩ = some (.int .i64 p))
      (hk : Row S w a ks) (hr : Row S w (some ⟨b, o + 4, none⟩) r) : Row S w (some ⟨b, o, none⟩) (.mk il wd ks p :: r)

/-- The slice v reads as the nodes l. -/
def Rd (S : Nat → Prop) (w : World) (v : Value) (l : List Nd) : Prop := ∃ a c, v = .slice a l.length c ∧ Row S w a l ∧ l.length ≤ c

theorem Row.mono {S T : Nat → Prop} {w w' : World} {a : Option Addr} {l : List Nd} (h : Row S w a l) (hS : ∀ b, S b → b < w.heap.size → T b ∧ w'.heap[b]? = w.heap[b]?) : Row T w' a l := by
  induction h with
  | nil a => exact .nil a
  | cons b o il wd ks p r a c hc hb h0 h1 h2 h3 hk hr ihk ihr =>
    have hlt : b < w.heap.size := World.block_lt_of_cell? w _ h0
    obtain ⟨hT, he⟩ := hS b hb hlt
    have ce : ∀ o, w'.cell? ⟨b, o, none⟩ = w.cell? ⟨b, o, none⟩ := fun o => World.cell?_of_block he
    exact .cons b o il wd ks p r a c hc hT (by rw [ce]; exact h0) (by rw [ce]; exact h1) (by rw [ce]; exact h2) (by rw [ce]; exact h3) ihk ihr

theorem Rd.mono {S T : Nat → Prop} {w w' : World} {v : Value} {l : List Nd} (h : Rd S w v l) (hS : ∀ b, S b → b < w.heap.size → T b ∧ w'.heap[b]? = w.heap[b]?) : Rd T w' v l := by
  obtain ⟨a, c, rfl, hr, hc⟩ := h
  exact ⟨a, c, rfl, hr.mono hS, hc⟩
theorem Rd.below {S : Nat → Prop} {w w' : World} {v : Value} {l : List Nd} (h : Rd S w v l) (hb : Below w.heap.size w w') : Rd S w' v l :=
  h.mono fun b hS hlt => ⟨hS, hb.block b hlt⟩
theorem Row.keep {S : Nat → Prop} {w w' : World} {a : Option Addr} {l : List Nd} (h : Row S w a l) (hb : Below w.heap.size w w') : Row S w' a l :=
  h.mono fun b hS hlt => ⟨hS, hb.block b hlt⟩
theorem Rd.any {S : Nat → Prop} {w : World} {v : Value} {l : List Nd} (h : Rd S w v l) : Rd (fun _ => True) w v l := h.mono fun _ _ _ => ⟨trivial, rfl⟩

/-- One node of a row. -/
theorem Row.atc {S : Nat → Prop} {w : World} {a : Option Addr} {l : List Nd} (h : Row S w a l) : ∀ (k : Nat) (il : Bool) (wd : List UInt8) (ks : List Nd) (p : Int), l[k]? = some (.mk il wd ks p) →
    ∃ b o a' c, a = some ⟨b, o, none⟩ ∧ S b ∧ w.cell? ⟨b, o + k * 4, none⟩ = some (.bool il) ∧ w.cell? ⟨b, o + k * 4 + 1, none⟩ = some (.string (bs wd)) ∧
      w.cell? ⟨b, o + k * 4 + 2, none⟩ = some (.slice a' ks.length c) ∧ w.cell? ⟨b, o + k * 4 + 3, none⟩ = some (.int .i64 p) ∧ Row S w a' ks ∧ ks.length ≤ c := by
  induction h with
  | nil a => intro k il wd ks p h; simp at h
  | cons b o il wd ks p r a c hc hb h0 h1 h2 h3 hk hr ihk ihr =>
    intro k il' wd' ks' p' h
    cases k with
    | zero =>
      simp only [List.getElem?_cons_zero, Option.some.injEq, Nd.mk.injEq] at h
      obtain ⟨rfl, rfl, rfl, rfl⟩ := h
      exact ⟨b, o, a, c, rfl, hb, by simpa using h0, by simpa using h1, by simpa using h2, by simpa using h3, hk, hc⟩
    | succ k =>
      obtain ⟨b', o', a', c', hA, hS, q0, q1, q2, q3, q4⟩ := ihr k il' wd' ks' p' (by simpa using h)
      simp only [Option.some.injEq, Addr.mk.injEq, and_true] at hA
      obtain ⟨rfl, rfl⟩ := hA
      have e : o + 4 + k * 4 = o + (k + 1) * 4 := by omega
      rw [e] at q0 q1 q2 q3
      exact ⟨b, o, a', c', rfl, hS, q0, q1, q2, q3, q4⟩

theorem Row.at_ {S : Nat → Prop} {w : World} {a : Option Addr} {l : List Nd} (h : Row S w a l) (k : Nat) (il : Bool) (wd : List UInt8) (ks : List Nd) (p : Int) (hk : l[k]? = some (.mk il wd ks p)) :
    ∃ b o a' c, a = some ⟨b, o, none⟩ ∧ S b ∧ w.cell? ⟨b, o + k * 4, none⟩ = some (.bool il) ∧ w.cell? ⟨b, o + k * 4 + 1, none⟩ = some (.string (bs wd)) ∧
      w.cell? ⟨b, o + k * 4 + 2, none⟩ = some (.slice a' ks.length c) ∧ w.cell? ⟨b, o + k * 4 + 3, none⟩ = some (.int .i64 p) ∧ Row S w a' ks :=
  let ⟨b, o, a', c, h0, h1, h2, h3, h4, h5, h6, _⟩ := h.atc k il wd ks p hk
  ⟨b, o, a', c, h0, h1, h2, h3, h4, h5, h6⟩

/-- The cells of nodes whose lists' own rows lie in S. -/
inductive Lay (S : Nat → Prop) (w : World) : List Value → List Nd → Prop
  | nil : Lay S w [] []
  | cons (il : Bool) (wd : List UInt8) (ks : List Nd) (p : Int) (a : Option Addr) (c : Nat) (hc : ks.length ≤ c) (xs : List Value) (l : List Nd) (hk : Row S w a ks) (hl : Lay S w xs l) :
      Lay S w (.bool il :: .string (bs wd) :: .slice a ks.length c :: .int .i64 p :: xs) (.mk il wd ks p :: l)

theorem Lay.mono {S T : Nat → Prop} {w w' : World} {xs : List Value} {l : List Nd} (h : Lay S w xs l) (hS : ∀ b, S b → b < w.heap.size → T b ∧ w'.heap[b]? = w.heap[b]?) : Lay T w' xs l := by
  induction h with
  | nil => exact .nil
  | cons il wd ks p a c hc xs l hk hl ih => exact .cons il wd ks p a c hc xs l (hk.mono hS) ih

theorem Lay.snoc {S : Nat → Prop} {w : World} {xs : List Value} {l : List Nd} (h : Lay S w xs l) (il : Bool) (wd : List UInt8) (ks : List Nd) (p : Int) (a : Option Addr) (c : Nat) (hk : Row S w a ks) (hc : ks.length ≤ c) :
    Lay S w (xs ++ [.bool il, .string (bs wd), .slice a ks.length c, .int .i64 p]) (l ++ [.mk il wd ks p]) := by
  induction h with
  | nil => exact .cons il wd ks p a c hc [] [] hk .nil
  | cons il' wd' ks' p' a' c' hc' xs l hk' hl ih => exact .cons il' wd' ks' p' a' c' hc' _ _ hk' ih

/-- Out of the cells that lie in a row: the row. -/
theorem Lay.row {S T : Nat → Prop} {w : World} {xs : List Value} {l : List Nd} (h : Lay S w xs l) (hST : ∀ b, S b → T b) (g : Nat) (hg : T g) :
    ∀ o, (∀ j u, xs[j]? = some u → w.cell? ⟨g, o + j, none⟩ = some u) → Row T w (some ⟨g, o, none⟩) l := by
  induction h with
  | nil => intro o _; exact .nil _
  | cons il wd ks p a c hcap xs l hk hl ih =>
    intro o hc
    refine .cons g o il wd ks p l a c hcap hg (by simpa using hc 0 _ rfl) (hc 1 _ rfl) (hc 2 _ rfl) (hc 3 _ rfl) (hk.mono fun b hb _ => ⟨hST b hb, rfl⟩) ?_
    refine ih (o + 4) fun j u hj => ?_
    have := hc (j + 4) u (by simpa using hj)
    rw [← this]
    congr 2
    omega

/-- A list of nodes under way: v owns its row, and the nodes' own lists lie in S. -/
def Kids (S : Nat → Prop) (w : World) (base : Nat) (v : Value) (l : List Nd) : Prop := ∃ xs, w.ownsRow base 66 4 v l.length xs ∧ Lay S w xs l

theorem Kids.rd {S T : Nat → Prop} {w : World} {base : Nat} {v : Value} {l : List Nd} (h : Kids S w base v l) (hST : ∀ b, S b → T b) (hT : ∀ g, v.ownBlock = some g → T g) : Rd T w v l := by
  obtain ⟨xs, ho, hl⟩ := h
  rcases ho.2 with ⟨rfl, h0⟩ | ⟨g, cap, cur, rfl, hb, hg, hn, hm, hs, htk⟩
  · have : l = [] := List.eq_nil_of_length_eq_zero h0
    subst this
    exact ⟨none, 0, rfl, .nil _, Nat.le_refl _⟩
  · refine ⟨some ⟨g, 0, none⟩, cap, rfl, hl.row hST g (hT g rfl) 0 fun j u hj => ?_, hn⟩
    have := ho.cells (g := g) rfl j u hj
    have e : (⟨g, 0, none⟩ : Addr).add j = ⟨g, 0 + j, none⟩ := by unfold Addr.add; split <;> simp_all
    rw [e] at this
    exact this

theorem Kids.keep {S T : Nat → Prop} {w w' : World} {base : Nat} {v : Value} {l : List Nd} (h : Kids S w base v l) (hS : ∀ b, S b → b < w.heap.size → T b ∧ w'.heap[b]? = w.heap[b]?)
    (hv : ∀ g, v.ownBlock = some g → w'.heap[g]? = w.heap[g]?) : Kids T w' base v l := by
  obtain ⟨xs, ho, hl⟩ := h
  refine ⟨xs, ⟨ho.1, ?_⟩, hl.mono hS⟩
  rcases ho.2 with h0 | ⟨g, cap, cur, rfl, hb, hg, rest⟩
  · exact .inl h0
  · exact .inr ⟨g, cap, cur, rfl, hb, by rw [hv g rfl]; exact hg, rest⟩

theorem Kids.none (S : Nat → Prop) (w : World) (base : Nat) : Kids S w base (.slice none 0 0) [] := ⟨[], World.ownsRow_nil _ _ _ _, .nil⟩
end Go.Proofs.YtbpdhegfdmppgaaGreatDoor

/- WORLDS: what a call keeps ('Kept M': all but the blocks of M); what a store does to a block. -/
namespace Go.Proofs.YtbpdhegfdmppgaaGreatDoor
open Go.RowKit

structure Kept (M : Nat → Prop) (w w' : World) : Prop where
  os : w'.os = w.os
  tape : w'.tape = w.tape
  output : w'.output = w.output
  size : w.heap.size ≤ w'.heap.size
  block : ∀ k, k < w.heap.size → ¬ M k → w'.heap[k]? = w.heap[k]?

theorem Kept.refl (M : Nat → Prop) (w : World) : Kept M w w := ⟨rfl, rfl, rfl, Nat.le_refl _, fun _ _ _ => rfl⟩
theorem Kept.trans {M : Nat → Prop} {a b c : World} (h : Kept M a b) (k : Kept M b c) : Kept M a c :=
  ⟨k.os.trans h.os, k.tape.trans h.tape, k.output.trans h.output, Nat.le_trans h.size k.size, fun i hi hm => (k.block i (Nat.lt_of_lt_of_le hi h.size) hm).trans (h.block i hi hm)⟩
theorem Kept.mono {M M' : Nat → Prop} {a b : World} (h : Kept M a b) (hM : ∀ k, k < a.heap.size → M k → M' k) : Kept M' a b :=
  ⟨h.os, h.tape, h.output, h.size, fun k hk hm => h.block k hk fun x => hm (hM k hk x)⟩
theorem Kept.below {M : Nat → Prop} {a b : World} {B : Nat} (h : Kept M a b) (hB : B ≤ a.heap.size) (hM : ∀ k, M k → B ≤ k) : Below B a b :=
  ⟨h.os, h.tape, h.output, h.size, fun k hk => h.block k (by omega) fun x => by have := hM k x; omega⟩
theorem Below.kept {a b : World} (h : Below a.heap.size a b) (M : Nat → Prop) : Kept M a b := ⟨h.os, h.tape, h.output, h.size, fun k hk _ => h.block k hk⟩
theorem Kept.of_grown {a b : World} {row : Option Nat} (h : a.grownBy b row) : Kept (fun k => row = some k) a b := ⟨h.os, h.tape, h.output, h.size, fun k hk hm => h.block k hk fun x => hm x.symm⟩
theorem Kept.setCell (w : World) (p : Addr) (v : Value) : Kept (fun k => k = p.block) w (w.setCell p v) :=
  ⟨rfl, rfl, rfl, by simp [World.setCell], fun k _ hm => Below.heap_setCell _ _ _ _ hm⟩
theorem Kept.set (w : World) (b o : Nat) (v : Value) : Kept (fun k => k = b) w (w.setCell ⟨b, o, none⟩ v) := Kept.setCell w ⟨b, o, none⟩ v
theorem Kept.alloc (w : World) (o : Obj) (M : Nat → Prop) : Kept M w (w.alloc o) := Below.kept ((Below.refl _ _).alloc (Nat.le_refl _) _) M
theorem Kept.drew {M : Nat → Prop} {a b : World} (h : Kept M a b) : Kept M a b.drew := ⟨h.os, h.tape, h.output, h.size, h.block⟩

theorem setCell_at {w : World} {b o : Nat} {v : Value} {c : Array Value} {e : TypeId} {f : Nat × Nat} (h : w.heap[b]? = some (.cells c e f)) :
    (w.setCell ⟨b, o, none⟩ v).heap[b]? = some (.cells (c.setIfInBounds o v) e f) := by
  simp [World.setCell, Array.getElem?_modify, h]
theorem setCell_other {w : World} {b o k : Nat} {v : Value} (h : k ≠ b) : (w.setCell ⟨b, o, none⟩ v).heap[k]? = w.heap[k]? := Below.heap_setCell _ _ _ _ h

theorem lt_of_some {w : World} {b : Nat} {o : Obj} (h : w.heap[b]? = some o) : b < w.heap.size := (Array.getElem?_eq_some_iff.1 h).1

theorem two_new (w : World) (o1 o2 : Obj) : Below w.heap.size w ((w.alloc o1).alloc o2).drew ∧ ((w.alloc o1).alloc o2).drew.heap[w.heap.size]? = some o1 ∧ ((w.alloc o1).alloc o2).drew.heap.size = w.heap.size + 2 := by
  refine ⟨(((Below.refl _ _).alloc (Nat.le_refl _) _).alloc (by simp) _).drew, ?_, by simp⟩
  show ((w.alloc o1).alloc o2).heap[w.heap.size]? = _
  rw [heap_alloc_old (w.alloc o1) o2 (by simp)]
  exact heap_alloc_new w o1

theorem cells4 {w : World} {b : Nat} {x0 x1 x2 x3 : Value} {t : TypeId} {f : Nat × Nat} (h : w.heap[b]? = some (.cells #[x0, x1, x2, x3] t f)) :
    w.cell? ⟨b, 0, none⟩ = some x0 ∧ w.cell? ⟨b, 1, none⟩ = some x1 ∧ w.cell? ⟨b, 2, none⟩ = some x2 ∧ w.cell? ⟨b, 3, none⟩ = some x3 := by
  simp [World.cell?, h]

theorem alloc_cell {w : World} {a : Addr} {v : Value} (o : Obj) (h : w.cell? a = some v) : (w.alloc o).cell? a = some v := by
  have hb := World.block_lt_of_cell? w a h
  rw [World.cell?_of_block (w := w) (heap_alloc_old w o hb)]
  exact h

theorem own_lt {w : World} {base : Nat} {e : TypeId} {size : Nat} {v : Value} {n : Nat} {xs : List Value} (h : w.ownsRow base e size v n xs) (b : Nat) (hb : w.heap.size ≤ b) : v.ownBlock ≠ some b := by
  intro e
  have := (h.lt b e).2
  omega

theorem own_kept {M : Nat → Prop} {w w' : World} {base : Nat} {e : TypeId} {size : Nat} {v : Value} {n : Nat} {xs : List Value} (h : w.ownsRow base e size v n xs) (hk : Kept M w w') (hM : ∀ g, v.ownBlock = some g → ¬ M g) : w'.ownsRow base e size v n xs := by
  refine ⟨h.1, ?_⟩
  rcases h.2 with h0 | ⟨g, cap, cur, rfl, hb, hg, rest⟩
  · exact .inl h0
  · exact .inr ⟨g, cap, cur, rfl, hb, by rw [hk.block g (lt_of_some hg) (hM g rfl)]; exact hg, rest⟩

/-- Four cells behind xs are written over. -/
theorem set4 (cur : Array Value) (xs : List Value) (n : Nat) (z0 z1 z2 z3 a b c d : Value) (hx : xs.length = n * 4) (h : cur.toList.take ((n + 1) * 4) = xs ++ [z0, z1, z2, z3]) :
    ((((cur.setIfInBounds (n * 4) a).setIfInBounds (n * 4 + 1) b).setIfInBounds (n * 4 + 2) c).setIfInBounds (n * 4 + 3) d).toList.take ((n + 1) * 4) = xs ++ [a, b, c, d] := by
  obtain ⟨t, h1⟩ : ∃ t, cur.toList = xs ++ ([z0, z1, z2, z3] ++ t) := ⟨cur.toList.drop ((n + 1) * 4), by rw [← List.append_assoc, ← h, List.take_append_drop]⟩
  have key : ∀ (l : List Value) (k : Nat) (v : Value), (xs ++ l).set (n * 4 + k) v = xs ++ l.set k v := fun l k v => by
    rw [List.set_append_right _ _ (by omega)]
    congr 2
    omega
  have key0 : ∀ (l : List Value) (v : Value), (xs ++ l).set (n * 4) v = xs ++ l.set 0 v := fun l v => key l 0 v
  simp only [Array.toList_setIfInBounds, h1]
  rw [key0, key, key, key]
  show ((xs ++ ([a, b, c, d] ++ _)).take ((n + 1) * 4)) = _
  rw [← List.append_assoc]
  exact List.take_left' (by simp; omega)
end Go.Proofs.YtbpdhegfdmppgaaGreatDoor
