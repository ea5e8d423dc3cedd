/- WORLDS: what a call keeps ('Kept M': all but the blocks of M); what a store does to a block. -/
import Derived.Test.YtbedhghcdhbkmaaHeap
namespace Go.Proofs.Ytbedhghcdhbkmaa
open Go.RowKit

structure Kept (M : Nat → Prop) (w w' : World) : Prop where
  os : w'.os = w.os
  tape : w'.tape = w.tape
  output : w'.output = w.output
  size : w.heap.size ≤ w'.heap.size
  block : ∀ k, k < w.heap.size → ¬ M k → w'.heap[k]? = w.heap[k]?

theorem Kept.refl (M : Nat → Prop) (w : World) : Kept M w w := ⟨rfl, rfl, rfl, Nat.le_refl _, fun _ _ _ => rfl⟩
theorem Kept.trans {M : Nat → Prop} {a b c : World} (h : Kept M a b) (k : Kept M b c) : Kept M a c :=
  ⟨k.os.trans h.os, k.tape.trans h.tape, k.output.trans h.output, Nat.le_trans h.size k.size, fun i hi hm => (k.block i (Nat.lt_of_lt_of_le hi h.size) hm).trans (h.block i hi hm)⟩
theorem Kept.mono {M M' : Nat → Prop} {a b : World} (h : Kept M a b) (hM : ∀ k, k < a.heap.size → M k → M' k) : Kept M' a b :=
  ⟨h.os, h.tape, h.output, h.size, fun k hk hm => h.block k hk fun x => hm (hM k hk x)⟩
theorem Kept.below {M : Nat → Prop} {a b : World} {B : Nat} (h : Kept M a b) (hB : B ≤ a.heap.size) (hM : ∀ k, M k → B ≤ k) : Below B a b :=
  ⟨h.os, h.tape, h.output, h.size, fun k hk => h.block k (by omega) fun x => by have := hM k x; omega⟩
theorem Below.kept {a b : World} (h : Below a.heap.size a b) (M : Nat → Prop) : Kept M a b := ⟨h.os, h.tape, h.output, h.size, fun k hk _ => h.block k hk⟩
theorem Kept.of_grown {a b : World} {row : Option Nat} (h : a.grownBy b row) : Kept (fun k => row = some k) a b := ⟨h.os, h.tape, h.output, h.size, fun k hk hm => h.block k hk fun x => hm x.symm⟩
theorem Kept.setCell (w : World) (p : Addr) (v : Value) : Kept (fun k => k = p.block) w (w.setCell p v) :=
  ⟨rfl, rfl, rfl, by simp [World.setCell], fun k _ hm => Below.heap_setCell _ _ _ _ hm⟩
theorem Kept.set (w : World) (b o : Nat) (v : Value) : Kept (fun k => k = b) w (w.setCell ⟨b, o, none⟩ v) := Kept.setCell w ⟨b, o, none⟩ v
theorem Kept.alloc (w : World) (o : Obj) (M : Nat → Prop) : Kept M w (w.alloc o) := Below.kept ((Below.refl _ _).alloc (Nat.le_refl _) _) M
theorem Kept.drew {M : Nat → Prop} {a b : World} (h : Kept M a b) : Kept M a b.drew := ⟨h.os, h.tape, h.output, h.size, h.block⟩

theorem setCell_at {w : World} {b o : Nat} {v : Value} {c : Array Value} {e : TypeId} {f : Nat × Nat} (h : w.heap[b]? = some (.cells c e f)) :
    (w.setCell ⟨b, o, none⟩ v).heap[b]? = some (.cells (c.setIfInBounds o v) e f) := by
  simp [World.setCell, Array.getElem?_modify, h]
theorem setCell_other {w : World} {b o k : Nat} {v : Value} (h : k ≠ b) : (w.setCell ⟨b, o, none⟩ v).heap[k]? = w.heap[k]? := Below.heap_setCell _ _ _ _ h

theorem lt_of_some {w : World} {b : Nat} {o : Obj} (h : w.heap[b]? = some o) : b < w.heap.size := (Array.getElem?_eq_some_iff.1 h).1

theorem two_new (w : World) (o1 o2 : Obj) : Below w.heap.size w ((w.alloc o1).alloc o2).drew ∧ ((w.alloc o1).alloc o2).drew.heap[w.heap.size]? = some o1 ∧ ((w.alloc o1).alloc o2).drew.heap.size = w.heap.size + 2 := by
  refine ⟨(((Below.refl _ _).alloc (Nat.le_refl _) _).alloc (by simp) _).drew, ?_, by simp⟩
  show ((w.alloc o1).alloc o2).heap[w.heap.size]? = _
  rw [heap_alloc_old (w.alloc o1) o2 (by simp)]
  exact heap_alloc_new w o1

theorem cells4 {w : World} {b : Nat} {x0 x1 x2 x3 : Value} {t : TypeId} {f : Nat × Nat} (h : w.heap[b]? = some (.cells #[x0, x1, x2, x3] t f)) :
    w.cell? ⟨b, 0, none⟩ = some x0 ∧ w.cell? ⟨b, 1, none⟩ = some x1 ∧ w.cell? ⟨b, 2, none⟩ = some x2 ∧ w.cell? ⟨b, 3, none⟩ = some x3 := by
  simp [World.cell?, h]

theorem alloc_cell {w : World} {a : Addr} {v : Value} (o : Obj) (h : w.cell? a = some v) : (w.alloc o).cell? a = some v := by
  have hb := World.block_lt_of_cell? w a h
  rw [World.cell?_of_block (w := w) (heap_alloc_old w o hb)]
  exact h

theorem own_lt {w : World} {base : Nat} {e : TypeId} {size : Nat} {v : Value} {n : Nat} {xs : List Value} (h : w.ownsRow base e size v n xs) (b : Nat) (hb : w.heap.size ≤ b) : v.ownBlock ≠ some b := by
  intro e
  have := (h.lt b e).2
  omega

theorem own_kept {M : Nat → Prop} {w w' : World} {base : Nat} {e : TypeId} {size : Nat} {v : Value} {n : Nat} {xs : List Value} (h : w.ownsRow base e size v n xs) (hk : Kept M w w') (hM : ∀ g, v.ownBlock = some g → ¬ M g) : w'.ownsRow base e size v n xs := by
  refine ⟨h.1, ?_⟩
  rcases h.2 with h0 | ⟨g, cap, cur, rfl, hb, hg, rest⟩
  · exact .inl h0
  · exact .inr ⟨g, cap, cur, rfl, hb, by rw [hk.block g (lt_of_some hg) (hM g rfl)]; exact hg, rest⟩

/-- Four cells behind xs are written over. -/
theorem set4 (cur : Array Value) (xs : List Value) (n : Nat) (z0 z1 z2 z3 a b c d : Value) (hx : xs.length = n * 4) (h : cur.toList.take ((n + 1) * 4) = xs ++ [z0, z1, z2, z3]) :
    ((((cur.setIfInBounds (n * 4) a).setIfInBounds (n * 4 + 1) b).setIfInBounds (n * 4 + 2) c).setIfInBounds (n * 4 + 3) d).toList.take ((n + 1) * 4) = xs ++ [a, b, c, d] := by
  obtain ⟨t, h1⟩ : ∃ t, cur.toList = xs ++ ([z0, z1, z2, z3] ++ t) := ⟨cur.toList.drop ((n + 1) * 4), by rw [← List.append_assoc, ← h, List.take_append_drop]⟩
  have key : ∀ (l : List Value) (k : Nat) (v : Value), (xs ++ l).set (n * 4 + k) v = xs ++ l.set k v := fun l k v => by
    rw [List.set_append_right _ _ (by omega)]
    congr 2
    omega
  have key0 : ∀ (l : List Value) (v : Value), (xs ++ l).set (n * 4) v = xs ++ l.set 0 v := fun l v => key l 0 v
  simp only [Array.toList_setIfInBounds, h1]
  rw [key0, key, key, key]
  show ((xs ++ ([a, b, c, d] ++ _)).take ((n + 1) * 4)) = _
  rw [← List.append_assoc]
  exact List.take_left' (by simp; omega)
end Go.Proofs.Ytbedhghcdhbkmaa
