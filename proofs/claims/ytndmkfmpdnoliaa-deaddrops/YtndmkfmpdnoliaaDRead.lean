/- CONTRACT of Read. -/
import Derived.Test.YtndmkfmpdnoliaaDDrop
import Derived.Test.YtndmkfmpdnoliaaDSort
namespace Go.Proofs.Ytndmkfmpdnoliaa
open Go.ChangeShapes Go.WideShapes Go.ChangeAt Go.RowKit

theorem row_drop {w : World} {S : Nat → Prop} {b : Nat} : ∀ {l : List Ir} {o : Nat} (k : Nat), kIr.row w S (some ⟨b, o, none⟩) l → kIr.row w S (some ⟨b, o + k * 9, none⟩) (l.drop k)
  | [], o, k, _ => by rw [List.drop_nil]; trivial
  | x :: l, o, 0, h => by simpa using h
  | x :: l, o, k + 1, h => by
    obtain ⟨b', o', cs, e, hS, hc, hC, hr⟩ := h
    have e' : b = b' ∧ o = o' := by injection e with e; injection e with e1 e2; exact ⟨e1, e2⟩
    obtain ⟨rfl, rfl⟩ := e'
    have := row_drop (l := l) (o := o + 9) k hr
    rw [show o + 9 + k * 9 = o + (k + 1) * 9 by omega] at this
    exact this
theorem backOk_drop {l : List Ir} (h : BackOk l) (k : Nat) : BackOk (l.drop k) :=
  ⟨by have := h.len; rw [List.length_drop]; omega, fun x hx => h.args x (List.mem_of_mem_drop hx), fun x hx => h.dst x (List.mem_of_mem_drop hx), fun x hx => h.reg x (List.mem_of_mem_drop hx)⟩
set_option maxRecDepth 100000 in
set_option maxHeartbeats 4000000 in
theorem read_any {B : Nat} {S : Nat → Prop} (x : Co) (pa : Option Addr) (pc : Nat) (la : Option Addr) (lc : Nat) (n : Int) (w : World) (hin : CoIn w S x pa pc la lc) (hok : CoOk x) (hd64 : D64 x.l) (hg : Glob B w) :
    Calls Try.prog 20 #[coV x pa pc la lc, .int .i64 n] w fun e w' => (∃ v, e = .returned v ∧ kInt.rd w' (fun b => w.heap.size ≤ b) v (readM x n)) ∧ Below w.heap.size w w' := by
  have hb0 : Below w.heap.size w (w.alloc (coO x pa pc la lc)) := bl_alloc (Below.refl _ _) _
  have h1 : (w.alloc (coO x pa pc la lc)).heap[w.heap.size]? = some (coO x pa pc la lc) := heap_alloc_new w _
  have hri := right_any x pa pc la lc (w.alloc (coO x pa pc la lc)) (hin.mono (T := S) fun b hb hlt => ⟨hb, hb0.block b hlt⟩) hok (hg.alloc _)
  have H1 : Hid _ := h1
  have HB0 : Hid _ := hb0
  have HLC := hin.lc
  clear hb0 h1
  unfold coV at hri ⊢
  have no : ∀ (P : Prop) [Decidable P], ¬ P → (if P then rising x.regs.toNat (rdL (x.l.drop n.toNat)) else []) = [] := fun P _ h => if_neg h
  by_cases hr : (rightR x).1 = 0
  rotate_left
  · have hr' : ((rightR x).1 == 0) = false := by simpa using hr
    have hr2 : ((rightR x).1 != 0) = true := by simpa using hr
    have HE : Hid (readM x n = []) := no _ fun h => hr h.1
    generalize (rightR x).1 = er at hri hr' hr2
    generalize (rightR x).2 = at0 at hri
    clear no
    go_enter Try.func20, Try.ntmps20
    go_wp2_with (first | (go_at_call 22; refine hri.mono ?_; rintro e w2 ⟨rfl, hb2⟩))
    go_ret
    exact ⟨⟨_, rfl, by rw [HE.out]; exact ⟨none, 0, rfl, trivial, Nat.le_refl _⟩⟩, bl_then HB0.out hb2⟩
  by_cases hn0 : 0 ≤ n
  rotate_left
  · have HE : Hid (readM x n = []) := no _ fun h => hn0 h.2.1
    have hn2 : n < 0 := by omega
    rw [hr] at hri
    generalize (rightR x).2 = at0 at hri
    clear no hr
    go_enter Try.func20, Try.ntmps20
    go_wp2_with (first | (go_at_call 22; refine hri.mono ?_; rintro e w2 ⟨rfl, hb2⟩))
    go_ret
    exact ⟨⟨_, rfl, by rw [HE.out]; exact ⟨none, 0, rfl, trivial, Nat.le_refl _⟩⟩, bl_then HB0.out hb2⟩
  by_cases hn1 : n ≤ (x.l.length : Int)
  rotate_left
  · have HE : Hid (readM x n = []) := no _ fun h => hn1 h.2.2
    rw [hr] at hri
    generalize (rightR x).2 = at0 at hri
    have hn2 : (x.l.length : Int) < n := by omega
    have hn3 : ¬ n < 0 := by omega
    clear no hr
    go_enter Try.func20, Try.ntmps20
    go_wp2_with (first | (go_at_call 22; refine hri.mono ?_; rintro e w2 ⟨rfl, hb2⟩))
    go_ret
    exact ⟨⟨_, rfl, by rw [HE.out]; exact ⟨none, 0, rfl, trivial, Nat.le_refl _⟩⟩, bl_then HB0.out hb2⟩
  · obtain ⟨k, rfl⟩ : ∃ k : Nat, n = k := ⟨n.toNat, by omega⟩
    have hkl : k ≤ x.l.length := by omega
    have hfo := (freeOk_of hr hok hd64).back
    have HE : Hid (readM x (k : Int) = rising x.regs.toNat (rdL (x.l.drop k))) := if_pos ⟨hr, hn0, hn1⟩
    have hn3 : ¬ (k : Int) < 0 := by omega
    have hn4 : ¬ (x.l.length : Int) < (k : Int) := by omega
    have HRR : Hid (∀ r ∈ rdL (x.l.drop k), 0 ≤ r ∧ r < (x.regs.toNat : Int)) := fun r h => by have := rd_range hr h; omega
    rw [hr] at hri
    generalize (rightR x).2 = at0 at hri
    have hlpos : 0 < x.l.length := by obtain ⟨_, _, h3, _⟩ := formB_parts (right_form hr); exact h3
    obtain ⟨b, o, _, _, rfl, _, _⟩ := ir_at hin.l 0 hlpos
    have hin' := hin.l
    clear no hr
    go_enter Try.func20, Try.ntmps20
    go_upto_region 3 with (first | (go_at_call 22; refine hri.mono ?_; rintro e w2 ⟨rfl, hb2⟩))
    have hb12 := (hb2.block _ (lt_of_some H1.out)).trans H1.out
    have HB2 : Hid _ := bl_then HB0.out hb2
    obtain ⟨c0, c1, c2, c3, c4⟩ := five hb12
    have hlen : (x.l.drop k).length = x.l.length - k := List.length_drop
    have hrd : kIr.row w2 S (if x.l.length = k then some ⟨b, o, none⟩ else some ⟨b, o + k * 9, none⟩) (x.l.drop k) := by
      split
      · rw [List.drop_of_length_le (by omega)]; trivial
      · exact row_drop k (kIr.row_mono (T := S) (by decide) hin' fun j hj hlt => ⟨hj, HB2.out.block j hlt⟩)
    have hbk := backwards_any w2 (if x.l.length = k then some ⟨b, o, none⟩ else some ⟨b, o + k * 9, none⟩) (x.l.drop k) (x.l.length - k) hrd (backOk_drop hfo k)
    rw [hlen] at hbk
    clear hri hb2 hb12
    go_upto_region 5 with fail
    go_upto_region 6 with (first | (go_at_call 36; refine hbk.mono ?_; rintro e w4 ⟨rfl, _, hreg, hb4⟩))
    have HB4 : Hid _ := bl_then HB2.out hb4
    have hz2 := HB2.out.size
    have hks := keys_any (some (w2.heap.size + 3)) w4
    have hso := sorted_any (m := x.regs.toNat) hreg (by have h1 := hfo.len; have := Nat.mul_le_mul_right 1000000 (show x.l.length - k ≤ 10000 by omega); omega) HRR.out
    clear hbk hrd hb4 hreg c0 c1 c2 c3 c4
    go_wp2_with (first | (go_at_call 38; refine hks.mono ?_; rintro e w5 ⟨rfl, rfl⟩) | (go_at_call 37; refine hso.mono ?_; rintro e w6 ⟨⟨v6, rfl, a6, c6, rfl, hr6, hc6⟩, hb6⟩))
    all_goals go_ret
    all_goals exact ⟨⟨_, rfl, by rw [HE.out]; exact ⟨a6, c6, rfl, kInt.row_mono (by decide) hr6 fun j hj _ => ⟨Nat.le_trans HB4.out.size hj, rfl⟩, hc6⟩⟩, bl_then HB4.out hb6⟩
end Go.Proofs.Ytndmkfmpdnoliaa
