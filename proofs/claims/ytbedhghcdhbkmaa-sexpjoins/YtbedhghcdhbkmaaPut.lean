/- THE CONTRACT of the reader's first closure: a node is put behind the nodes of the list that goes on. -/
import Derived.Test.YtbedhghcdhbkmaaRows
import Derived.Test.YtbedhghcdhbkmaaKept
import Derived.ProofKit
import Derived.OpenShut
import Derived.WalkLawsBesides
import Derived.WalkSpells
import Derived.OwnWalk
import Derived.Deep.RegionLaw
import Derived.Deep.DrawnRows
namespace Go.Proofs.Ytbedhghcdhbkmaa
open Go.ChangeShapes Go.WideShapes Go.ChangeAt Go.RowKit

theorem Try.info37 : (Try.prog.info? 37).map (fun i => (i.zero, i.size, i.bytes)) = some (some (.agg #[.bool false, .string ⟨#[]⟩, .slice none 0 0, .int .i64 0]), 4, 56) := by kernel_rfl

/-- What 'put' leaves. -/
def PutAt (g cap ob d n base : Nat) (row : Array Value) (v : Value) (xs news : List Value) (w w' : World) : Prop :=
  w'.ownsRow base 37 4 (.slice (some ⟨g, 0, none⟩) (n + 1) cap) (n + 1) (xs ++ news) ∧
    w'.heap[ob]? = some (.cells (row.setIfInBounds (d * 4 + 2) (.slice (some ⟨g, 0, none⟩) (n + 1) cap)) 37 (0, 0)) ∧
    (v.ownBlock = some g ∨ w.heap.size ≤ g) ∧ Kept (fun k => k = ob ∨ v.ownBlock = some k) w w'

def PutLeft (ob d n base : Nat) (row : Array Value) (v : Value) (xs news : List Value) (w w' : World) : Prop := ∃ g cap, PutAt g cap ob d n base row v xs news w w'

theorem put_end1 {ob d n base g cap : Nat} {row : Array Value} {v : Value} {xs news : List Value} {w W w1 : World} {o : Obj}
    (hB : Below w.heap.size w W) (hWs : W.heap.size = w.heap.size + 2) (hob : w.heap[ob]? = some (.cells row 37 (0, 0))) (h2 : v.ownBlock ≠ some ob)
    (hown1 : w1.ownsRow base 37 4 (.slice (some ⟨g, 0, none⟩) (n + 1) cap) (n + 1) (xs ++ news)) (hgrow : (W.alloc o).drew.grownBy w1 v.ownBlock)
    (hat : v.ownBlock = some g ∨ g = W.heap.size + 1) :
    PutAt g cap ob d n base row v xs news w (w1.setCell ⟨ob, d * 4 + 2, none⟩ (.slice (some ⟨g, 0, none⟩) (n + 1) cap)) := by
  have lb := lt_of_some hob
  have hk1 : Kept (fun k => k = ob ∨ v.ownBlock = some k) w w1 :=
    (Below.kept hB _).trans (((Kept.alloc W o _).drew).trans ((Kept.of_grown hgrow).mono fun k _ hk => .inr hk))
  have hg : g ≠ ob := by
    rcases hat with h | h
    · rintro rfl; exact h2 h
    · omega
  refine ⟨own_kept hown1 (Kept.set w1 _ _ _) fun g' hg' => ?_, ?_, ?_, hk1.trans ((Kept.set w1 _ _ _).mono fun k _ hk => .inl hk)⟩
  · simp only [Value.ownBlock, Option.some.injEq] at hg'
    subst hg'
    exact hg
  · refine setCell_at ?_
    have e0 : W.heap[ob]? = w.heap[ob]? := hB.block ob lb
    have e1 : (W.alloc o).drew.heap[ob]? = W.heap[ob]? := heap_alloc_old W o (by omega)
    have e2 : w1.heap[ob]? = (W.alloc o).drew.heap[ob]? := hgrow.block ob (by simp; omega) (Ne.symm h2)
    rw [e2, e1, e0]
    exact hob
  · rcases hat with h | h
    · exact .inl h
    · exact .inr (by omega)

theorem put_end2 {ob d n base g cap : Nat} {row : Array Value} {v : Value} {xs : List Value} {z0 z1 z2 z3 x0 x1 x2 x3 : Value} {w w' : World} (hx : xs.length = n * 4)
    (h : PutAt g cap ob d n base row v xs [z0, z1, z2, z3] w w') (hne : g ≠ ob) :
    PutAt g cap ob d n base row v xs [x0, x1, x2, x3] w ((((w'.setCell ⟨g, n * 4, none⟩ x0).setCell ⟨g, n * 4 + 1, none⟩ x1).setCell ⟨g, n * 4 + 2, none⟩ x2).setCell ⟨g, n * 4 + 3, none⟩ x3) := by
  obtain ⟨ho, hr, hat, hk⟩ := h
  have K4 : Kept (fun k => k = g) w' ((((w'.setCell ⟨g, n * 4, none⟩ x0).setCell ⟨g, n * 4 + 1, none⟩ x1).setCell ⟨g, n * 4 + 2, none⟩ x2).setCell ⟨g, n * 4 + 3, none⟩ x3) :=
    (((Kept.set w' g (n * 4) x0).trans (Kept.set _ g (n * 4 + 1) x1)).trans (Kept.set _ g (n * 4 + 2) x2)).trans (Kept.set _ g (n * 4 + 3) x3)
  have hown : ((((w'.setCell ⟨g, n * 4, none⟩ x0).setCell ⟨g, n * 4 + 1, none⟩ x1).setCell ⟨g, n * 4 + 2, none⟩ x2).setCell ⟨g, n * 4 + 3, none⟩ x3).ownsRow base 37 4 (.slice (some ⟨g, 0, none⟩) (n + 1) cap) (n + 1) (xs ++ [x0, x1, x2, x3]) := by
    rcases ho.2 with ⟨h0, _⟩ | ⟨g', cap', cur, hv, hb, hh, hn, hm, hs, htk⟩
    · cases h0
    · simp only [Value.slice.injEq, Option.some.injEq, Addr.mk.injEq, and_true, true_and] at hv
      obtain ⟨rfl, rfl⟩ := hv
      have h4 := setCell_at (o := n * 4 + 3) (v := x3) (setCell_at (o := n * 4 + 2) (v := x2) (setCell_at (o := n * 4 + 1) (v := x1) (setCell_at (o := n * 4) (v := x0) hh)))
      have h5 := set4 _ _ _ _ _ _ _ x0 x1 x2 x3 hx htk
      exact ⟨by rw [List.length_append, hx]; simp; omega, .inr ⟨g, cap, _, rfl, hb, h4, hn, hm, by simpa using hs, h5⟩⟩
  have hr' : ((((w'.setCell ⟨g, n * 4, none⟩ x0).setCell ⟨g, n * 4 + 1, none⟩ x1).setCell ⟨g, n * 4 + 2, none⟩ x2).setCell ⟨g, n * 4 + 3, none⟩ x3).heap[ob]? = some (.cells (row.setIfInBounds (d * 4 + 2) (.slice (some ⟨g, 0, none⟩) (n + 1) cap)) 37 (0, 0)) := by
    rw [setCell_other hne.symm, setCell_other hne.symm, setCell_other hne.symm, setCell_other hne.symm]
    exact hr
  exact ⟨hown, hr', hat, K4.os.trans hk.os, K4.tape.trans hk.tape, K4.output.trans hk.output, Nat.le_trans hk.size K4.size, fun k hlt hm => (K4.block k (Nat.lt_of_lt_of_le hlt hk.size) (fun e => by
    subst e
    rcases hat with h | h
    · exact hm (.inr h)
    · omega)).trans (hk.block k hlt hm)⟩

theorem own4 {w : World} {base g n cap : Nat} {xs : List Value} {z0 z1 z2 z3 : Value} (hx : xs.length = n * 4) (h : w.ownsRow base 37 4 (.slice (some ⟨g, 0, none⟩) (n + 1) cap) (n + 1) (xs ++ [z0, z1, z2, z3])) :
    w.cell? ⟨g, n * 4, none⟩ = some z0 ∧ w.cell? ⟨g, n * 4 + 1, none⟩ = some z1 ∧ w.cell? ⟨g, n * 4 + 2, none⟩ = some z2 ∧ w.cell? ⟨g, n * 4 + 3, none⟩ = some z3 ∧ ∀ o, w.frozen? ⟨g, o, none⟩ = false := by
  have key : ∀ j u, (xs ++ [z0, z1, z2, z3])[j]? = some u → w.cell? ⟨g, j, none⟩ = some u := fun j u hj => by
    have := h.cells (g := g) rfl j u hj
    have e : (⟨g, 0, none⟩ : Addr).add j = ⟨g, 0 + j, none⟩ := by unfold Addr.add; split <;> simp_all
    rw [e, Nat.zero_add] at this
    exact this
  have hi : ∀ i, (xs ++ [z0, z1, z2, z3])[n * 4 + i]? = [z0, z1, z2, z3][i]? := fun i => by rw [← hx, List.getElem?_append_right (by omega)]; congr 1; omega
  refine ⟨key _ _ (hi 0), key _ _ (hi 1), key _ _ (hi 2), key _ _ (hi 3), fun o => ?_⟩
  rcases h.2 with ⟨h0, _⟩ | ⟨g', cap', cur, hv, hb, hh, _⟩
  · cases h0
  · simp only [Value.slice.injEq, Option.some.injEq, Addr.mk.injEq, and_true, true_and] at hv
    obtain ⟨rfl, rfl⟩ := hv
    simp [World.frozen?, hh]

attribute [local go_sem ↓] Go.wp_at_zero Go.wp_at_succ

set_option maxRecDepth 100000 in
set_option maxHeartbeats 32000000 in
theorem put_any0 (oc ob d n base : Nat) (row : Array Value) (va : Option Addr) (vc : Nat) (xs : List Value) (il : Bool) (wd : ByteArray) (a : Option Addr) (k c : Nat) (p : Int) (w : World)
    (hoc : w.heap[oc]? = some (.cells #[.slice (some ⟨ob, 0, none⟩) (d + 1) 25] 23 (0, 0)))
    (hob : w.heap[ob]? = some (.cells row 37 (0, 0))) (_hrs : row.size = 100) (hd : d < 25) (hv : row[d * 4 + 2]? = some (.slice va n vc))
    (hown : w.ownsRow base 37 4 (.slice va n vc) n xs) (hbase : base ≤ w.heap.size) (hn : n ≤ 100000)
    (h1 : (Value.slice va n vc).ownBlock ≠ some oc) (h2 : (Value.slice va n vc).ownBlock ≠ some ob) :
    Calls Try.prog 26 #[.agg #[.bool il, .string wd, .slice a k c, .int .i64 p], .pointer (some ⟨oc, 0, none⟩)] w fun e w' => e = .returned (.tuple #[]) ∧
      PutLeft ob d n base row (.slice va n vc) xs [.bool il, .string wd, .slice a k c, .int .i64 p] w w' := by
  obtain ⟨i0, hi0, hz0, hz1, hz2⟩ := info_parts Try.info37
  have lo : oc < w.heap.size := lt_of_some hoc
  have lb : ob < w.heap.size := lt_of_some hob
  have c1 : w.cell? ⟨oc, 0, none⟩ = some (.slice (some ⟨ob, 0, none⟩) (d + 1) 25) := by simp [World.cell?, hoc]
  have c2 : w.cell? ⟨ob, d * 4 + 2, none⟩ = some (.slice va n vc) := by simp [World.cell?, hob, hv]
  have hd0 : (0 : Int) ≤ (d : Int) := by omega
  have hd1 : (d : Int) < (d + 1 : Nat) := by omega
  have hd2 : (d : Int) < (d : Int) + 1 := by omega
  go_enter Try.func26, Try.ntmps26
  go_wp2_with fail
  go_region
  all_goals go_wp2_with fail
  · have hw := two_new w (Obj.cells #[Value.bool il, Value.string wd, Value.slice a k c, Value.int .i64 p] 37) (Obj.cells #[Value.bool false] 4)
    generalize ((w.alloc (Obj.cells #[Value.bool il, Value.string wd, Value.slice a k c, Value.int IntKind.i64 p] 37)).alloc (Obj.cells #[Value.bool false] 4)).drew = W at hw ⊢
    obtain ⟨hB, hbox, hWs0⟩ := hw
    have hWs : Hid (W.heap.size = w.heap.size + 2) := hWs0
    clear hWs0
    obtain ⟨b0, b1, b2, b3⟩ := cells4 hbox
    have d1 : W.cell? ⟨oc, 0, none⟩ = some (.slice (some ⟨ob, 0, none⟩) (d + 1) 25) := by rw [hB.cell lo]; exact c1
    have d2 : W.cell? ⟨ob, d * 4 + 2, none⟩ = some (.slice va n vc) := by rw [hB.cell lb]; exact c2
    have d3 : W.frozen? ⟨ob, d * 4 + 2, none⟩ = false := by rw [hB.frozen lb]; simp [World.frozen?, hob]
    have ag := own_lt hown w.heap.size (Nat.le_refl _)
    have hownW : W.ownsRow base 37 4 (.slice va n vc) n xs := own_kept hown (Below.kept hB fun _ => False) fun _ _ h => h
    have f1 : ∀ c t, (W.alloc (.cells c t)).cell? ⟨oc, 0, none⟩ = some (.slice (some ⟨ob, 0, none⟩) (d + 1) 25) := fun c t => alloc_cell _ d1
    have f2 : ∀ c t, (W.alloc (.cells c t)).cell? ⟨ob, d * 4 + 2, none⟩ = some (.slice va n vc) := fun c t => alloc_cell _ d2
    have HO : Hid (w.heap[ob]? = some (.cells row 37 (0, 0))) := hob
    clear c1 c2 hoc hob hv
    go_region_law ((refine step_append_lies _ (by rfl) _ _ _ (by rfl) base 37 i0 _ 4 56 Try.underlying23 hi0 hz0 hz1 hz2 rfl (by omega) (.slice va n vc) n xs (by rfl) ((hownW.alloc _).drew) ⟨W.heap.size, 0, none⟩ 1 1 [.bool il, .string wd, .slice a k c, .int .i64 p] (by rfl) (by rfl) (World.news_of_block (cs := #[.bool il, .string wd, .slice a k c, .int .i64 p]) (t := 37) (fr := (0, 0)) (heap_alloc_new W _)) (by simp [Value.oneCell']) (by omega) (by unfold maxLen; omega) (by omega) (by have := hWs.out; simp; omega) (W.heap.size + 1) (by simp) ?_; intro gg cap w1 hown1 hgrow hat hlt; have e1 : w1.cell? ⟨oc, 0, none⟩ = some (.slice (some ⟨ob, 0, none⟩) (d + 1) 25) := (hgrow.cell_far ⟨oc, 0, none⟩ (by have := hWs.out; simp; omega) (Ne.symm h1)).trans (f1 _ _); have e2 : w1.cell? ⟨ob, d * 4 + 2, none⟩ = some (.slice va n vc) := (hgrow.cell_far ⟨ob, d * 4 + 2, none⟩ (by have := hWs.out; simp; omega) (Ne.symm h2)).trans (f2 _ _); have e3 : w1.frozen? ⟨ob, d * 4 + 2, none⟩ = false := (hgrow.frozen_far ⟨ob, d * 4 + 2, none⟩ (by have := hWs.out; simp; omega) (Ne.symm h2)).trans ((frozen?_alloc_cells _ _ _ _).trans d3)))
    all_goals (go_end0; exact ⟨rfl, _, _, put_end1 hB hWs.out HO.out h2 hown1 hgrow hat⟩)
  · have hw := two_new w (Obj.cells #[Value.bool il, Value.string wd, Value.slice a k c, Value.int .i64 p] 37) (Obj.cells #[Value.bool true] 4)
    generalize ((w.alloc (Obj.cells #[Value.bool il, Value.string wd, Value.slice a k c, Value.int IntKind.i64 p] 37)).alloc (Obj.cells #[Value.bool true] 4)).drew = W at hw ⊢
    obtain ⟨hB, hbox, hWs0⟩ := hw
    have hWs : Hid (W.heap.size = w.heap.size + 2) := hWs0
    clear hWs0
    obtain ⟨b0, b1, b2, b3⟩ := cells4 hbox
    have d1 : W.cell? ⟨oc, 0, none⟩ = some (.slice (some ⟨ob, 0, none⟩) (d + 1) 25) := by rw [hB.cell lo]; exact c1
    have d2 : W.cell? ⟨ob, d * 4 + 2, none⟩ = some (.slice va n vc) := by rw [hB.cell lb]; exact c2
    have d3 : W.frozen? ⟨ob, d * 4 + 2, none⟩ = false := by rw [hB.frozen lb]; simp [World.frozen?, hob]
    have ag := own_lt hown w.heap.size (Nat.le_refl _)
    have hownW : W.ownsRow base 37 4 (.slice va n vc) n xs := own_kept hown (Below.kept hB fun _ => False) fun _ _ h => h
    have f1 : ∀ c t, (W.alloc (.cells c t)).cell? ⟨oc, 0, none⟩ = some (.slice (some ⟨ob, 0, none⟩) (d + 1) 25) := fun c t => alloc_cell _ d1
    have f2 : ∀ c t, (W.alloc (.cells c t)).cell? ⟨ob, d * 4 + 2, none⟩ = some (.slice va n vc) := fun c t => alloc_cell _ d2
    have f3 : ∀ c t, (W.alloc (.cells c t)).cell? ⟨w.heap.size, 0, none⟩ = some (.bool il) := fun c t => alloc_cell _ b0
    have f4 : ∀ c t, (W.alloc (.cells c t)).cell? ⟨w.heap.size, 1, none⟩ = some (.string wd) := fun c t => alloc_cell _ b1
    have f5 : ∀ c' t, (W.alloc (.cells c' t)).cell? ⟨w.heap.size, 2, none⟩ = some (.slice a k c) := fun c' t => alloc_cell _ b2
    have f6 : ∀ c t, (W.alloc (.cells c t)).cell? ⟨w.heap.size, 3, none⟩ = some (.int .i64 p) := fun c t => alloc_cell _ b3
    have hne : ob ≠ w.heap.size := by omega
    have hne' : w.heap.size ≠ ob := by omega
    have HO : Hid (w.heap[ob]? = some (.cells row 37 (0, 0))) := hob
    clear c1 c2 hoc hob hv
    go_region_law ((refine step_append_lies _ (by rfl) _ _ _ (by rfl) base 37 i0 _ 4 56 Try.underlying23 hi0 hz0 hz1 hz2 rfl (by omega) (.slice va n vc) n xs (by rfl) ((hownW.alloc _).drew) ⟨W.heap.size, 0, none⟩ 1 1 [.bool false, .string ⟨#[]⟩, .slice none 0 0, .int .i64 0] (by rfl) (by rfl) (World.news_of_block (cs := #[.bool false, .string ⟨#[]⟩, .slice none 0 0, .int .i64 0]) (t := 37) (fr := (0, 0)) (heap_alloc_new W _)) (by simp [Value.oneCell']) (by omega) (by unfold maxLen; omega) (by omega) (by have := hWs.out; simp; omega) (W.heap.size + 1) (by simp) ?_; intro gg cap w1 hown1 hgrow hat hlt; have e1 : w1.cell? ⟨oc, 0, none⟩ = some (.slice (some ⟨ob, 0, none⟩) (d + 1) 25) := (hgrow.cell_far ⟨oc, 0, none⟩ (by have := hWs.out; simp; omega) (Ne.symm h1)).trans (f1 _ _); have e2 : w1.cell? ⟨ob, d * 4 + 2, none⟩ = some (.slice va n vc) := (hgrow.cell_far ⟨ob, d * 4 + 2, none⟩ (by have := hWs.out; simp; omega) (Ne.symm h2)).trans (f2 _ _); have e3 : w1.frozen? ⟨ob, d * 4 + 2, none⟩ = false := (hgrow.frozen_far ⟨ob, d * 4 + 2, none⟩ (by have := hWs.out; simp; omega) (Ne.symm h2)).trans ((frozen?_alloc_cells _ _ _ _).trans d3); have q0 : w1.cell? ⟨w.heap.size, 0, none⟩ = some (.bool il) := (hgrow.cell_far ⟨w.heap.size, 0, none⟩ (by have := hWs.out; simp; omega) (Ne.symm ag)).trans (alloc_cell _ b0); have q1 : w1.cell? ⟨w.heap.size, 1, none⟩ = some (.string wd) := (hgrow.cell_far ⟨w.heap.size, 1, none⟩ (by have := hWs.out; simp; omega) (Ne.symm ag)).trans (alloc_cell _ b1); have q2 : w1.cell? ⟨w.heap.size, 2, none⟩ = some (.slice a k c) := (hgrow.cell_far ⟨w.heap.size, 2, none⟩ (by have := hWs.out; simp; omega) (Ne.symm ag)).trans (alloc_cell _ b2); have q3 : w1.cell? ⟨w.heap.size, 3, none⟩ = some (.int .i64 p) := (hgrow.cell_far ⟨w.heap.size, 3, none⟩ (by have := hWs.out; simp; omega) (Ne.symm ag)).trans (alloc_cell _ b3)))
    all_goals
      have hgne : gg ≠ ob := by
        rcases hat with h | h
        · rintro rfl; exact h2 h
        · have := hWs.out; omega
      obtain ⟨r0, r1, r2, r3, r4⟩ := own4 hown.1 hown1
      have hn0 : (0 : Int) ≤ (n : Int) := by omega
      have hn1 : (n : Int) < (n : Int) + 1 := by omega
      go_wp2_with fail
      go_end0
      exact ⟨rfl, _, _, put_end2 hown.1 (put_end1 hB hWs.out HO.out h2 hown1 hgrow hat) hgne⟩

theorem put_any (oc ob d n base : Nat) (row : Array Value) (v : Value) (xs : List Value) (il : Bool) (wd : ByteArray) (a : Option Addr) (k c : Nat) (p : Int) (w : World)
    (hoc : w.heap[oc]? = some (.cells #[.slice (some ⟨ob, 0, none⟩) (d + 1) 25] 23 (0, 0)))
    (hob : w.heap[ob]? = some (.cells row 37 (0, 0))) (hrs : row.size = 100) (hd : d < 25) (hv : row[d * 4 + 2]? = some v)
    (hown : w.ownsRow base 37 4 v n xs) (hbase : base ≤ w.heap.size) (hn : n ≤ 100000)
    (h1 : v.ownBlock ≠ some oc) (h2 : v.ownBlock ≠ some ob) :
    Calls Try.prog 26 #[.agg #[.bool il, .string wd, .slice a k c, .int .i64 p], .pointer (some ⟨oc, 0, none⟩)] w fun e w' => e = .returned (.tuple #[]) ∧
      PutLeft ob d n base row v xs [.bool il, .string wd, .slice a k c, .int .i64 p] w w' := by
  obtain ⟨va, vc, rfl⟩ : ∃ va vc, v = .slice va n vc := by
    rcases hown.2 with ⟨rfl, rfl⟩ | ⟨g, cap, cur, rfl, _⟩
    · exact ⟨none, 0, rfl⟩
    · exact ⟨_, _, rfl⟩
  exact put_any0 oc ob d n base row va vc xs il wd a k c p w hoc hob hrs hd hv hown hbase hn h1 h2
end Go.Proofs.Ytbedhghcdhbkmaa
