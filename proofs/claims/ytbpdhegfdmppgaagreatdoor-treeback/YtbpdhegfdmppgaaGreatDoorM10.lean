/- Texts of this proof, put together: Put, Inv. -/
import Derived.Test.YtbpdhegfdmppgaaGreatDoorRows
import Derived.Test.YtbpdhegfdmppgaaGreatDoorM2
import Derived.ProofKit
import Derived.OpenShut
import Derived.WalkLawsBesides
import Derived.WalkSpells
import Derived.OwnWalk
import Derived.Deep.RegionLaw
import Derived.Deep.DrawnRows

/- THE CONTRACT of the reader's first closure: a node is put behind the nodes of the list that goes on. -/
namespace Go.Proofs.YtbpdhegfdmppgaaGreatDoor
open Go.ChangeShapes Go.WideShapes Go.ChangeAt Go.RowKit

theorem Tryz.info66 : (Tryz.prog.info? 66).map (fun i => (i.zero, i.size, i.bytes)) = some (some (.agg #[.bool false, .string ⟨#[]⟩, .slice none 0 0, .int .i64 0]), 4, 56) := by kernel_rfl

/-- What 'put' leaves. -/
def PutAt (g cap ob d n base : Nat) (row : Array Value) (v : Value) (xs news : List Value) (w w' : World) : Prop :=
  w'.ownsRow base 66 4 (.slice (some ⟨g, 0, none⟩) (n + 1) cap) (n + 1) (xs ++ news) ∧
    w'.heap[ob]? = some (.cells (row.setIfInBounds (d * 4 + 2) (.slice (some ⟨g, 0, none⟩) (n + 1) cap)) 66 (0, 0)) ∧
    (v.ownBlock = some g ∨ w.heap.size ≤ g) ∧ Kept (fun k => k = ob ∨ v.ownBlock = some k) w w'

def PutLeft (ob d n base : Nat) (row : Array Value) (v : Value) (xs news : List Value) (w w' : World) : Prop := ∃ g cap, PutAt g cap ob d n base row v xs news w w'

theorem put_end1 {ob d n base g cap : Nat} {row : Array Value} {v : Value} {xs news : List Value} {w W w1 : World} {o : Obj}
    (hB : Below w.heap.size w W) (hWs : W.heap.size = w.heap.size + 2) (hob : w.heap[ob]? = some (.cells row 66 (0, 0))) (h2 : v.ownBlock ≠ some ob)
    (hown1 : w1.ownsRow base 66 4 (.slice (some ⟨g, 0, none⟩) (n + 1) cap) (n + 1) (xs ++ news)) (hgrow : (W.alloc o).drew.grownBy w1 v.ownBlock)
    (hat : v.ownBlock = some g ∨ g = W.heap.size + 1) :
    PutAt g cap ob d n base row v xs news w (w1.setCell ⟨ob, d * 4 + 2, none⟩ (.slice (some ⟨g, 0, none⟩) (n + 1) cap)) := by
  have lb := lt_of_some hob
  have hk1 : Kept (fun k => k = ob ∨ v.ownBlock = some k) w w1 :=
    (Below.kept hB _).trans (((Kept.alloc W o _).drew).trans ((Kept.of_grown hgrow).mono fun k _ hk => .inr hk))
  have hg : g ≠ ob := by
    rcases hat with h | h
    · rintro rfl; exact h2 h
    · omega
  refine ⟨own_kept hown1 (Kept.set w1 _ _ _) fun g' hg' => ?_, ?_, ?_, hk1.trans ((Kept.set w1 _ _ _).mono fun k _ hk => .inl hk)⟩
  · simp only [Value.ownBlock, Option.some.injEq] at hg'
    subst hg'
    exact hg
  · refine setCell_at ?_
    have e0 : W.heap[ob]? = w.heap[ob]? := hB.block ob lb
    have e1 : (W.alloc o).drew.heap[ob]? = W.heap[ob]? := heap_alloc_old W o (by omega)
    have e2 : w1.heap[ob]? = (W.alloc o).drew.heap[ob]? := hgrow.block ob (by simp; omega) (Ne.symm h2)
    rw [e2, e1, e0]
    exact hob
  · rcases hat with h | h
    · exact .inl h
    · exact .inr (by omega)

theorem put_end2 {ob d n base g cap : Nat} {row : Array Value} {v : Value} {xs : List Value} {z0 z1 z2 z3 x0 x1 x2 x3 : Value} {w w' : World} (hx : xs.length = n * 4)
    (h : PutAt g cap ob d n base row v xs [z0, z1, z2, z3] w w') (hne : g ≠ ob) :
    PutAt g cap ob d n base row v xs [x0, x1, x2, x3] w ((((w'.setCell ⟨g, n * 4, none⟩ x0).setCell ⟨g, n * 4 + 1, none⟩ x1).setCell ⟨g, n * 4 + 2, none⟩ x2).setCell ⟨g, n * 4 + 3, none⟩ x3) := by
  obtain ⟨ho, hr, hat, hk⟩ := h
  have K4 : Kept (fun k => k = g) w' ((((w'.setCell ⟨g, n * 4, none⟩ x0).setCell ⟨g, n * 4 + 1, none⟩ x1).setCell ⟨g, n * 4 + 2, none⟩ x2).setCell ⟨g, n * 4 + 3, none⟩ x3) :=
    (((Kept.set w' g (n * 4) x0).trans (Kept.set _ g (n * 4 + 1) x1)).trans (Kept.set _ g (n * 4 + 2) x2)).trans (Kept.set _ g (n * 4 + 3) x3)
  have hown : ((((w'.setCell ⟨g, n * 4, none⟩ x0).setCell ⟨g, n * 4 + 1, none⟩ x1).setCell ⟨g, n * 4 + 2, none⟩ x2).setCell ⟨g, n * 4 + 3, none⟩ x3).ownsRow base 66 4 (.slice (some ⟨g, 0, none⟩) (n + 1) cap) (n + 1) (xs ++ [x0, x1, x2, x3]) := by
    rcases ho.2 with ⟨h0, _⟩ | ⟨g', cap', cur, hv, hb, hh, hn, hm, hs, htk⟩
    · cases h0
    · simp only [Value.slice.injEq, Option.some.injEq, Addr.mk.injEq, and_true, true_and] at hv
      obtain ⟨rfl, rfl⟩ := hv
      have h4 := setCell_at (o := n * 4 + 3) (v := x3) (setCell_at (o := n * 4 + 2) (v := x2) (setCell_at (o := n * 4 + 1) (v := x1) (setCell_at (o := n * 4) (v := x0) hh)))
      have h5 := set4 _ _ _ _ _ _ _ x0 x1 x2 x3 hx htk
      exact ⟨by rw [List.length_append, hx]; simp; omega, .inr ⟨g, cap, _, rfl, hb, h4, hn, hm, by simpa using hs, h5⟩⟩
  have hr' : ((((w'.setCell ⟨g, n * 4, none⟩ x0).setCell ⟨g, n * 4 + 1, none⟩ x1).setCell ⟨g, n * 4 + 2, none⟩ x2).setCell ⟨g, n * 4 + 3, none⟩ x3).heap[ob]? = some (.cells (row.setIfInBounds (d * 4 + 2) (.slice (some ⟨g, 0, none⟩) (n + 1) cap)) 66 (0, 0)) := by
    rw [setCell_other hne.symm, setCell_other hne.symm, setCell_other hne.symm, setCell_other hne.symm]
    exact hr
  exact ⟨hown, hr', hat, K4.os.trans hk.os, K4.tape.trans hk.tape, K4.output.trans hk.output, Nat.le_trans hk.size K4.size, fun k hlt hm => (K4.block k (Nat.lt_of_lt_of_le hlt hk.size) (fun e => by
    subst e
    rcases hat with h | h
    · exact hm (.inr h)
    · omega)).trans (hk.block k hlt hm)⟩

theorem own4 {w : World} {base g n cap : Nat} {xs : List Value} {z0 z1 z2 z3 : Value} (hx : xs.length = n * 4) (h : w.ownsRow base 66 4 (.slice (some ⟨g, 0, none⟩) (n + 1) cap) (n + 1) (xs ++ [z0, z1, z2, z3])) :
    w.cell? ⟨g, n * 4, none⟩ = some z0 ∧ w.cell? ⟨g, n * 4 + 1, none⟩ = some z1 ∧ w.cell? ⟨g, n * 4 + 2, none⟩ = some z2 ∧ w.cell? ⟨g, n * 4 + 3, none⟩ = some z3 ∧ ∀ o, w.frozen? ⟨g, o, none⟩ = false := by
  have key : ∀ j u, (xs ++ [z0, z1, z2, z3])[j]? = some u → w.cell? ⟨g, j, none⟩ = some u := fun j u hj => by
    have := h.cells (g := g) rfl j u hj
    have e : (⟨g, 0, none⟩ : Addr).add j = ⟨g, 0 + j, none⟩ := by unfold Addr.add; split <;> simp_all
    rw [e, Nat.zero_add] at this
    exact this
  have hi : ∀ i, (xs ++ [z0, z1, z2, z3])[n * 4 + i]? = [z0, z1, z2, z3][i]? := fun i => by rw [← hx, List.getElem?_append_right (by omega)]; congr 1; omega
  refine ⟨key _ _ (hi 0), key _ _ (hi 1), key _ _ (hi 2), key _ _ (hi 3), fun o => ?_⟩
  rcases h.2 with ⟨h0, _⟩ | ⟨g', cap', cur, hv, hb, hh, _⟩
  · cases h0
  · simp only [Value.slice.injEq, Option.some.injEq, Addr.mk.injEq, and_true, true_and] at hv
    obtain ⟨rfl, rfl⟩ := hv
    simp [World.frozen?, hh]

attribute [local go_sem ↓] Go.wp_at_zero Go.wp_at_succ

set_option maxRecDepth 100000 in
set_option maxHeartbeats 32000000 in
theorem put_any0 (oc ob d n base : Nat) (row : Array Value) (va : Option Addr) (vc : Nat) (xs : List Value) (il : Bool) (wd : ByteArray) (a : Option Addr) (k c : Nat) (p : Int) (w : World)
    (hoc : w.heap[oc]? = some (.cells #[.slice (some ⟨ob, 0, none⟩) (d + 1) 25] 23 (0, 0)))
    (hob : w.heap[ob]? = some (.cells row 66 (0, 0))) (_hrs : row.size = 100) (hd : d < 25) (hv : row[d * 4 + 2]? = some (.slice va n vc))
    (hown : w.ownsRow base 66 4 (.slice va n vc) n xs) (hbase : base ≤ w.heap.size) (hn : n ≤ 100000)
    (h1 : (Value.slice va n vc).ownBlock ≠ some oc) (h2 : (Value.slice va n vc).ownBlock ≠ some ob) :
    Calls Tryz.prog 51 #[.agg #[.bool il, .string wd, .slice a k c, .int .i64 p], .pointer (some ⟨oc, 0, none⟩)] w fun e w' => e = .returned (.tuple #[]) ∧
      PutLeft ob d n base row (.slice va n vc) xs [.bool il, .string wd, .slice a k c, .int .i64 p] w w' := by
  obtain ⟨i0, hi0, hz0, hz1, hz2⟩ := info_parts Tryz.info66
  have lo : oc < w.heap.size := lt_of_some hoc
  have lb : ob < w.heap.size := lt_of_some hob
  have c1 : w.cell? ⟨oc, 0, none⟩ = some (.slice (some ⟨ob, 0, none⟩) (d + 1) 25) := by simp [World.cell?, hoc]
  have c2 : w.cell? ⟨ob, d * 4 + 2, none⟩ = some (.slice va n vc) := by simp [World.cell?, hob, hv]
  have hd0 : (0 : Int) ≤ (d : Int) := by omega
  have hd1 : (d : Int) < (d + 1 : Nat) := by omega
  have hd2 : (d : Int) < (d : Int) + 1 := by omega
  go_enter Tryz.func51, Tryz.ntmps51
  go_wp2_with fail
  go_region
  all_goals go_wp2_with fail
  · have hw := two_new w (Obj.cells #[Value.bool il, Value.string wd, Value.slice a k c, Value.int .i64 p] 66) (Obj.cells #[Value.bool false] 4)
    generalize ((w.alloc (Obj.cells #[Value.bool il, Value.string wd, Value.slice a k c, Value.int IntKind.i64 p] 66)).alloc (Obj.cells #[Value.bool false] 4)).drew = W at hw ⊢
    obtain ⟨hB, hbox, hWs0⟩ := hw
    have hWs : Hid (W.heap.size = w.heap.size + 2) := hWs0
    clear hWs0
    obtain ⟨b0, b1, b2, b3⟩ := cells4 hbox
    have d1 : W.cell? ⟨oc, 0, none⟩ = some (.slice (some ⟨ob, 0, none⟩) (d + 1) 25) := by rw [hB.cell lo]; exact c1
    have d2 : W.cell? ⟨ob, d * 4 + 2, none⟩ = some (.slice va n vc) := by rw [hB.cell lb]; exact c2
    have d3 : W.frozen? ⟨ob, d * 4 + 2, none⟩ = false := by rw [hB.frozen lb]; simp [World.frozen?, hob]
    have ag := own_lt hown w.heap.size (Nat.le_refl _)
    have hownW : W.ownsRow base 66 4 (.slice va n vc) n xs := own_kept hown (Below.kept hB fun _ => False) fun _ _ h => h
    have f1 : ∀ c t, (W.alloc (.cells c t)).cell? ⟨oc, 0, none⟩ = some (.slice (some ⟨ob, 0, none⟩) (d + 1) 25) := fun c t => alloc_cell _ d1
    have f2 : ∀ c t, (W.alloc (.cells c t)).cell? ⟨ob, d * 4 + 2, none⟩ = some (.slice va n vc) := fun c t => alloc_cell _ d2
    have HO : Hid (w.heap[ob]? = some (.cells row 66 (0, 0))) := hob
    clear c1 c2 hoc hob hv
    go_region_law ((refine step_append_lies _ (by rfl) _ _ _ (by rfl) base 66 i0 _ 4 56 Tryz.underlying23 hi0 hz0 hz1 hz2 rfl (by omega) (.slice va n vc) n xs (by rfl) ((hownW.alloc _).drew) ⟨W.heap.size, 0, none⟩ 1 1 [.bool il, .string wd, .slice a k c, .int .i64 p] (by rfl) (by rfl) (World.news_of_block (cs := #[.bool il, .string wd, .slice a k c, .int .i64 p]) (t := 66) (fr := (0, 0)) (heap_alloc_new W _)) (by simp [Value.oneCell']) (by omega) (by unfold maxLen; omega) (by omega) (by have := hWs.out; simp; omega) (W.heap.size + 1) (by simp) ?_; intro gg cap w1 hown1 hgrow hat hlt; have e1 : w1.cell? ⟨oc, 0, none⟩ = some (.slice (some ⟨ob, 0, none⟩) (d + 1) 25) := (hgrow.cell_far ⟨oc, 0, none⟩ (by have := hWs.out; simp; omega) (Ne.symm h1)).trans (f1 _ _); have e2 : w1.cell? ⟨ob, d * 4 + 2, none⟩ = some (.slice va n vc) := (hgrow.cell_far ⟨ob, d * 4 + 2, none⟩ (by have := hWs.out; simp; omega) (Ne.symm h2)).trans (f2 _ _); have e3 : w1.frozen? ⟨ob, d * 4 + 2, none⟩ = false := (hgrow.frozen_far ⟨ob, d * 4 + 2, none⟩ (by have := hWs.out; simp; omega) (Ne.symm h2)).trans ((frozen?_alloc_cells _ _ _ _).trans d3)))
    all_goals (go_end0; exact ⟨rfl, _, _, put_end1 hB hWs.out HO.out h2 hown1 hgrow hat⟩)
  · have hw := two_new w (Obj.cells #[Value.bool il, Value.string wd, Value.slice a k c, Value.int .i64 p] 66) (Obj.cells #[Value.bool true] 4)
    generalize ((w.alloc (Obj.cells #[Value.bool il, Value.string wd, Value.slice a k c, Value.int IntKind.i64 p] 66)).alloc (Obj.cells #[Value.bool true] 4)).drew = W at hw ⊢
    obtain ⟨hB, hbox, hWs0⟩ := hw
    have hWs : Hid (W.heap.size = w.heap.size + 2) := hWs0
    clear hWs0
    obtain ⟨b0, b1, b2, b3⟩ := cells4 hbox
    have d1 : W.cell? ⟨oc, 0, none⟩ = some (.slice (some ⟨ob, 0, none⟩) (d + 1) 25) := by rw [hB.cell lo]; exact c1
    have d2 : W.cell? ⟨ob, d * 4 + 2, none⟩ = some (.slice va n vc) := by rw [hB.cell lb]; exact c2
    have d3 : W.frozen? ⟨ob, d * 4 + 2, none⟩ = false := by rw [hB.frozen lb]; simp [World.frozen?, hob]
    have ag := own_lt hown w.heap.size (Nat.le_refl _)
    have hownW : W.ownsRow base 66 4 (.slice va n vc) n xs := own_kept hown (Below.kept hB fun _ => False) fun _ _ h => h
    have f1 : ∀ c t, (W.alloc (.cells c t)).cell? ⟨oc, 0, none⟩ = some (.slice (some ⟨ob, 0, none⟩) (d + 1) 25) := fun c t => alloc_cell _ d1
    have f2 : ∀ c t, (W.alloc (.cells c t)).cell? ⟨ob, d * 4 + 2, none⟩ = some (.slice va n vc) := fun c t => alloc_cell _ d2
    have f3 : ∀ c t, (W.alloc (.cells c t)).cell? ⟨w.heap.size, 0, none⟩ = some (.bool il) := fun c t => alloc_cell _ b0
    have f4 : ∀ c t, (W.alloc (.cells c t)).cell? ⟨w.heap.size, 1, none⟩ = some (.string wd) := fun c t => alloc_cell _ b1
    have f5 : ∀ c' t, (W.alloc (.cells c' t)).cell? ⟨w.heap.size, 2, none⟩ = some (.slice a k c) := fun c' t => alloc_cell _ b2
    have f6 : ∀ c t, (W.alloc (.cells c t)).cell? ⟨w.heap.size, 3, none⟩ = some (.int .i64 p) := fun c t => alloc_cell _ b3
    have hne : ob ≠ w.heap.size := by omega
    have hne' : w.heap.size ≠ ob := by omega
    have HO : Hid (w.heap[ob]? = some (.cells row 66 (0, 0))) := hob
    clear c1 c2 hoc hob hv
    go_region_law ((refine step_append_lies _ (by rfl) _ _ _ (by rfl) base 66 i0 _ 4 56 Tryz.underlying23 hi0 hz0 hz1 hz2 rfl (by omega) (.slice va n vc) n xs (by rfl) ((hownW.alloc _).drew) ⟨W.heap.size, 0, none⟩ 1 1 [.bool false, .string ⟨#[]⟩, .slice none 0 0, .int .i64 0] (by rfl) (by rfl) (World.news_of_block (cs := #[.bool false, .string ⟨#[]⟩, .slice none 0 0, .int .i64 0]) (t := 66) (fr := (0, 0)) (heap_alloc_new W _)) (by simp [Value.oneCell']) (by omega) (by unfold maxLen; omega) (by omega) (by have := hWs.out; simp; omega) (W.heap.size + 1) (by simp) ?_; intro gg cap w1 hown1 hgrow hat hlt; have e1 : w1.cell? ⟨oc, 0, none⟩ = some (.slice (some ⟨ob, 0, none⟩) (d + 1) 25) := (hgrow.cell_far ⟨oc, 0, none⟩ (by have := hWs.out; simp; omega) (Ne.symm h1)).trans (f1 _ _); have e2 : w1.cell? ⟨ob, d * 4 + 2, none⟩ = some (.slice va n vc) := (hgrow.cell_far ⟨ob, d * 4 + 2, none⟩ (by have := hWs.out; simp; omega) (Ne.symm h2)).trans (f2 _ _); have e3 : w1.frozen? ⟨ob, d * 4 + 2, none⟩ = false := (hgrow.frozen_far ⟨ob, d * 4 + 2, none⟩ (by have := hWs.out; simp; omega) (Ne.symm h2)).trans ((frozen?_alloc_cells _ _ _ _).trans d3); have q0 : w1.cell? ⟨w.heap.size, 0, none⟩ = some (.bool il) := (hgrow.cell_far ⟨w.heap.size, 0, none⟩ (by have := hWs.out; simp; omega) (Ne.symm ag)).trans (alloc_cell _ b0); have q1 : w1.cell? ⟨w.heap.size, 1, none⟩ = some (.string wd) := (hgrow.cell_far ⟨w.heap.size, 1, none⟩ (by have := hWs.out; simp; omega) (Ne.symm ag)).trans (alloc_cell _ b1); have q2 : w1.cell? ⟨w.heap.size, 2, none⟩ = some (.slice a k c) := (hgrow.cell_far ⟨w.heap.size, 2, none⟩ (by have := hWs.out; simp; omega) (Ne.symm ag)).trans (alloc_cell _ b2); have q3 : w1.cell? ⟨w.heap.size, 3, none⟩ = some (.int .i64 p) := (hgrow.cell_far ⟨w.heap.size, 3, none⟩ (by have := hWs.out; simp; omega) (Ne.symm ag)).trans (alloc_cell _ b3)))
    all_goals
      have hgne : gg ≠ ob := by
        rcases hat with h | h
        · rintro rfl; exact h2 h
        · have := hWs.out; omega
      obtain ⟨r0, r1, r2, r3, r4⟩ := own4 hown.1 hown1
      have hn0 : (0 : Int) ≤ (n : Int) := by omega
      have hn1 : (n : Int) < (n : Int) + 1 := by omega
      go_wp2_with fail
      go_end0
      exact ⟨rfl, _, _, put_end2 hown.1 (put_end1 hB hWs.out HO.out h2 hown1 hgrow hat) hgne⟩

theorem put_any (oc ob d n base : Nat) (row : Array Value) (v : Value) (xs : List Value) (il : Bool) (wd : ByteArray) (a : Option Addr) (k c : Nat) (p : Int) (w : World)
    (hoc : w.heap[oc]? = some (.cells #[.slice (some ⟨ob, 0, none⟩) (d + 1) 25] 23 (0, 0)))
    (hob : w.heap[ob]? = some (.cells row 66 (0, 0))) (hrs : row.size = 100) (hd : d < 25) (hv : row[d * 4 + 2]? = some v)
    (hown : w.ownsRow base 66 4 v n xs) (hbase : base ≤ w.heap.size) (hn : n ≤ 100000)
    (h1 : v.ownBlock ≠ some oc) (h2 : v.ownBlock ≠ some ob) :
    Calls Tryz.prog 51 #[.agg #[.bool il, .string wd, .slice a k c, .int .i64 p], .pointer (some ⟨oc, 0, none⟩)] w fun e w' => e = .returned (.tuple #[]) ∧
      PutLeft ob d n base row v xs [.bool il, .string wd, .slice a k c, .int .i64 p] w w' := by
  obtain ⟨va, vc, rfl⟩ : ∃ va vc, v = .slice va n vc := by
    rcases hown.2 with ⟨rfl, rfl⟩ | ⟨g, cap, cur, rfl, _⟩
    · exact ⟨none, 0, rfl⟩
    · exact ⟨_, _, rfl⟩
  exact put_any0 oc ob d n base row va vc xs il wd a k c p w hoc hob hrs hd hv hown hbase hn h1 h2
end Go.Proofs.YtbpdhegfdmppgaaGreatDoor

/- THE READER's STATE IN MEMORY: what its closures keep. -/
namespace Go.Proofs.YtbpdhegfdmppgaaGreatDoor
open Go.RowKit

def byteV (b : UInt8) : Value := .int .u8 b.toNat

/-- The lists that go on, the innermost one first; vs: where their nodes lie. -/
def Fs (F : Nat → Prop) (w : World) (base : Nat) (row : Array Value) : List Fr → List Value → Prop
  | [], [] => True
  | f :: r, v :: vs => row[r.length * 4]? = some (.bool (!r.isEmpty)) ∧ row[r.length * 4 + 1]? = some (.string ⟨#[]⟩) ∧ row[r.length * 4 + 2]? = some v ∧ row[r.length * 4 + 3]? = some (.int .i64 f.pos) ∧
      Kids F w base v f.kids ∧ (∀ g, v.ownBlock = some g → ¬ F g ∧ ∀ u ∈ vs, u.ownBlock ≠ some g) ∧ Fs F w base row r vs
  | _, _ => False

theorem Kids.base {F : Nat → Prop} {w : World} {base : Nat} {v : Value} {l : List Nd} (h : Kids F w base v l) : ∀ g, v.ownBlock = some g → base ≤ g ∧ g < w.heap.size := by
  obtain ⟨xs, ho, _⟩ := h
  exact ho.lt

theorem Fs.keep {F F' : Nat → Prop} {w w' : World} {base : Nat} {row row' : Array Value} : ∀ {fs : List Fr} {vs : List Value}, Fs F w base row fs vs → (∀ i, i < fs.length * 4 → row'[i]? = row[i]?) →
    (∀ b, F b → b < w.heap.size → F' b ∧ w'.heap[b]? = w.heap[b]?) → (∀ v ∈ vs, ∀ g, v.ownBlock = some g → w'.heap[g]? = w.heap[g]? ∧ ¬ F' g) → Fs F' w' base row' fs vs
  | [], [], _, _, _, _ => trivial
  | f :: r, v :: vs, h, hr, hF, hv => by
    obtain ⟨h0, h1, h2, h3, hk, hd, ht⟩ := h
    simp only [List.length_cons] at hr
    refine ⟨by rw [hr _ (by omega)]; exact h0, by rw [hr _ (by omega)]; exact h1, by rw [hr _ (by omega)]; exact h2, by rw [hr _ (by omega)]; exact h3, ?_, ?_, ?_⟩
    · exact hk.keep hF fun g hg => (hv v (by simp) g hg).1
    · exact fun g hg => ⟨(hv v (by simp) g hg).2, (hd g hg).2⟩
    · exact Fs.keep ht (fun i hi => hr i (by omega)) hF fun u hu => hv u (by simp [hu])
  | [], _ :: _, h, _, _, _ => h.elim
  | _ :: _, [], h, _, _, _ => h.elim

theorem Fs.base {F : Nat → Prop} {w : World} {base : Nat} {row : Array Value} : ∀ {fs : List Fr} {vs : List Value}, Fs F w base row fs vs → ∀ v ∈ vs, ∀ g, v.ownBlock = some g → base ≤ g ∧ g < w.heap.size ∧ ¬ F g
  | [], [], _, v, hv, _, _ => by cases hv
  | f :: r, u :: vs, h, v, hv, g, hg => by
    obtain ⟨h0, h1, h2, h3, hk, hd, ht⟩ := h
    rcases List.mem_cons.1 hv with rfl | hv
    · exact ⟨(hk.base g hg).1, (hk.base g hg).2, (hd g hg).1⟩
    · exact Fs.base ht v hv g hg
  | [], _ :: _, h, _, _, _, _ => h.elim
  | _ :: _, [], h, _, _, _, _ => h.elim

/-- A block of cells. -/
def isC (w : World) (k : Nat) : Prop := ∃ c e f, w.heap[k]? = some (.cells c e f)
/-- Kept, but for blocks of cells from N on. -/
def KeptN (N : Nat) (w w' : World) : Prop := Kept (fun k => N ≤ k ∧ isC w k) w w'
theorem KeptN.refl (N : Nat) (w : World) : KeptN N w w := Kept.refl _ _
theorem KeptN.trans {N : Nat} {a b c : World} (h : KeptN N a b) (k : KeptN N b c) : KeptN N a c :=
  ⟨k.os.trans h.os, k.tape.trans h.tape, k.output.trans h.output, Nat.le_trans h.size k.size, fun i hi hm => (k.block i (Nat.lt_of_lt_of_le hi h.size) fun hx => hm ⟨hx.1, by
    have := h.block i hi hm
    unfold isC at hx ⊢
    rw [this] at hx
    exact hx.2⟩).trans (h.block i hi hm)⟩
theorem KeptN.below {N : Nat} {a b : World} (h : KeptN N a b) (hN : N ≤ a.heap.size) : Below N a b := Kept.below h hN fun _ hk => hk.1
theorem KeptN.iter {N k p : Nat} {a b : World} {s : ByteArray} (h : KeptN N a b) (hi : a.heap[k]? = some (.stringIter s p)) : b.heap[k]? = some (.stringIter s p) := by
  rw [h.block k (lt_of_some hi) fun hx => by obtain ⟨c, e, f, hc⟩ := hx.2; rw [hi] at hc; cases hc]
  exact hi

theorem isC_own {w : World} {base : Nat} {e : TypeId} {size : Nat} {v : Value} {n g : Nat} {xs : List Value} (h : w.ownsRow base e size v n xs) (hg : v.ownBlock = some g) : isC w g := by
  rcases h.2 with ⟨rfl, _⟩ | ⟨g', cap, cur, rfl, _, hh, _⟩
  · cases hg
  · simp only [Value.ownBlock, Option.some.injEq] at hg
    subst hg
    exact ⟨_, _, _, hh⟩

structure Inv (F : Nat → Prop) (N m : Nat) (w : World) (st : St) (vw : Value) (row : Array Value) (vs : List Value) : Prop where
  hw : w.heap[N]? = some (.cells #[vw] 84 (0, 0))
  ow : w.ownsRow (N + 5) 5 1 vw st.word.length (st.word.map byteV)
  hr : w.heap[N + 1]? = some (.cells row 66 (0, 0))
  rs : row.size = 100
  ho : w.heap[N + 2]? = some (.cells #[.slice (some ⟨N + 1, 0, none⟩) (st.rest.length + 1) 25] 23 (0, 0))
  hp : w.heap[N + 3]? = some (.cells #[.func (.func 51) #[] #[.pointer (some ⟨N + 2, 0, none⟩)]] 91 (0, 0))
  he : w.heap[N + 4]? = some (.cells #[.func (.func 52) #[] #[.pointer (some ⟨N, 0, none⟩), .pointer (some ⟨N + 3, 0, none⟩)]] 92 (0, 0))
  dp : st.rest.length < 25
  fs : Fs F w (N + 5) row (st.top :: st.rest) vs
  F0 : ∀ b, F b → N + 5 ≤ b ∧ b < w.heap.size
  FC : ∀ b, F b → isC w b
  fw : ∀ g, vw.ownBlock = some g → ¬ F g ∧ ∀ u ∈ vs, u.ownBlock ≠ some g
  bw : st.word.length ≤ m
  bk : ∀ f ∈ st.top :: st.rest, f.kids.length ≤ m

theorem Inv.lt {F : Nat → Prop} {N m : Nat} {w : World} {st : St} {vw : Value} {row : Array Value} {vs : List Value} (h : Inv F N m w st vw row vs) : N + 5 ≤ w.heap.size := by
  have := lt_of_some h.he
  omega

theorem Inv.put {F : Nat → Prop} {N m : Nat} {w w' : World} {st : St} {vw v : Value} {row : Array Value} {vs : List Value} {xs : List Value} {il : Bool} {wd : List UInt8} {ks : List Nd} {p : Int} {a : Option Addr} {c : Nat}
    (h : Inv F N m w st vw row (v :: vs)) (hlay : Lay F w xs st.top.kids) (hk : Row F w a ks) (hcap : ks.length ≤ c)
    (hl : PutLeft (N + 1) st.rest.length st.top.kids.length (N + 5) row v xs [.bool il, .string (bs wd), .slice a ks.length c, .int .i64 p] w w') :
    KeptN N w w' ∧ ∃ row' vs', Inv F N (m + 1) w' (st.put (.mk il wd ks p)) vw row' vs' := by
  obtain ⟨g, cap, ho, hob, hat, hkp⟩ := hl
  obtain ⟨h0, h1, h2, h3, hkids, hdis, htail⟩ := h.fs
  have hN := h.lt
  have hvb := hkids.base
  have hbk := h.bk
  have same : ∀ k, k < w.heap.size → k ≠ N + 1 → v.ownBlock ≠ some k → w'.heap[k]? = w.heap[k]? := fun k hk h1 h2 => hkp.block k hk fun x => x.elim h1 h2
  have small : ∀ k, N ≤ k → k < N + 5 → v.ownBlock ≠ some k := fun k h1 h2 e => by have := (hvb k e).1; omega
  have five : ∀ k, k < N + 5 → N ≤ k → k ≠ N + 1 → w'.heap[k]? = w.heap[k]? := fun k h1 h2 h3 => same k (by omega) h3 (small k h2 h1)
  have hlt : g < w'.heap.size := (ho.lt g rfl).2
  have gF : ¬ F g := by
    intro hF
    rcases hat with e | e
    · exact (hdis g e).1 hF
    · have := (h.F0 g hF).2; omega
  have FK : ∀ b, F b → b < w.heap.size → F b ∧ w'.heap[b]? = w.heap[b]? := fun b hF hb => ⟨hF, same b hb (by have := (h.F0 b hF).1; omega) fun e => (hdis b e).1 hF⟩
  have hsz := hkp.size
  refine ⟨hkp.mono fun k _ hm => ?_, row.setIfInBounds (st.rest.length * 4 + 2) (.slice (some ⟨g, 0, none⟩) (st.top.kids.length + 1) cap), .slice (some ⟨g, 0, none⟩) (st.top.kids.length + 1) cap :: vs, ?_⟩
  · rcases hm with rfl | e
    · exact ⟨by omega, _, _, _, h.hr⟩
    · obtain ⟨_, ho0, _⟩ := hkids
      exact ⟨by have := (hvb k e).1; omega, isC_own ho0 e⟩
  refine { hw := ?_, ow := ?_, hr := hob, rs := by simpa using h.rs, ho := ?_, hp := ?_, he := ?_, dp := h.dp, fs := ?_, F0 := ?_, FC := ?_, fw := ?_, bw := ?_, bk := ?_ }
  · rw [five N (by omega) (by omega) (by omega)]; exact h.hw
  · refine own_kept h.ow hkp fun g' hg' hm => ?_
    rcases hm with rfl | e
    · have := (h.ow.lt _ hg').1; omega
    · exact (h.fw g' hg').2 v (by simp) e
  · rw [five (N + 2) (by omega) (by omega) (by omega)]; exact h.ho
  · rw [five (N + 3) (by omega) (by omega) (by omega)]; exact h.hp
  · rw [five (N + 4) (by omega) (by omega) (by omega)]; exact h.he
  · have hdp := h.dp
    have hrs := h.rs
    refine ⟨?_, ?_, ?_, ?_, ?_, ?_, ?_⟩
    · rw [Array.getElem?_setIfInBounds_ne (by simp only [St.put]; omega)]; exact h0
    · rw [Array.getElem?_setIfInBounds_ne (by simp only [St.put]; omega)]; exact h1
    · simp only [St.put]; rw [Array.getElem?_setIfInBounds_self_of_lt (by omega)]
    · rw [Array.getElem?_setIfInBounds_ne (by simp only [St.put]; omega)]; exact h3
    · simp only [St.put]
      refine ⟨xs ++ [.bool il, .string (bs wd), .slice a ks.length c, .int .i64 p], by simpa using ho, (hlay.mono FK).snoc il wd ks p a c (hk.mono FK) hcap⟩
    · intro g' hg'
      simp only [Value.ownBlock, Option.some.injEq] at hg'
      subst hg'
      refine ⟨gF, fun u hu e => ?_⟩
      rcases hat with e' | e'
      · exact (hdis g e').2 u hu e
      · have := (Fs.base htail u hu g e).2.1; omega
    · refine Fs.keep htail (fun i hi => ?_) FK fun u hu g' hg' => ?_
      · simp only [St.put] at hi
        rw [Array.getElem?_setIfInBounds_ne (by omega)]
      · obtain ⟨q1, q2, q3⟩ := Fs.base htail u hu g' hg'
        exact ⟨same g' q2 (by omega) fun e => (hdis g' e).2 u hu hg', q3⟩
  · exact fun b hF => ⟨(h.F0 b hF).1, by have := (h.F0 b hF).2; omega⟩
  · intro b hF
    unfold isC
    rw [(FK b hF (h.F0 b hF).2).2]
    exact h.FC b hF
  · intro g' hg'
    obtain ⟨q1, q2⟩ := h.fw g' hg'
    refine ⟨q1, fun u hu e => ?_⟩
    rcases List.mem_cons.1 hu with rfl | hu
    · simp only [Value.ownBlock, Option.some.injEq] at e
      subst e
      rcases hat with e' | e'
      · exact q2 v (by simp) e'
      · have := (h.ow.lt _ hg').2; omega
    · exact q2 u (by simp [hu]) e
  · have := h.bw; simp only [St.put]; omega
  · intro f hf
    simp only [St.put] at hf
    rcases List.mem_cons.1 hf with rfl | hf
    · have := hbk st.top (by simp)
      simp only [List.length_append, List.length_cons, List.length_nil]
      omega
    · have := hbk f (by simp [hf]); omega
end Go.Proofs.YtbpdhegfdmppgaaGreatDoor
