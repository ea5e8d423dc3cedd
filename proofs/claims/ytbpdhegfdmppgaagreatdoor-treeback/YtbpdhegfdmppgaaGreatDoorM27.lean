/- Texts of this proof, put together: SSt, SSt1, SSt2, SSt3, SSt4, SSt6. -/
import Derived.Test.YtbpdhegfdmppgaaGreatDoorM25
import Derived.Test.YtbpdhegfdmppgaaGreatDoorM26

/- WHERE A CALL OF stmtNode IS: its argument's block, its result's, its node's, and what is left of the statement. -/
namespace Go.Proofs.YtbpdhegfdmppgaaGreatDoor.Sh
open Go.ChangeShapes Go.WideShapes Go.ChangeAt Go.RowKit

structure St (w : World) (cs : Array Value) (w' : World) : Prop where
  box : w'.heap[w.heap.size]? = some (.cells cs 110)
  res : w'.heap[w.heap.size + 1]? = some nd0
  node : w'.heap[w.heap.size + 2]? = some nd0
  more : w'.heap[w.heap.size + 3]? = some (.cells cs 110)
  bl : Below w.heap.size w w'
theorem St.on {w : World} {cs : Array Value} {w1 w2 : World} (h : St w cs w1) (hb : Below w1.heap.size w1 w2) : St w cs w2 :=
  ⟨by rw [hb.block _ (lt_of_some h.box)]; exact h.box, by rw [hb.block _ (lt_of_some h.res)]; exact h.res, by rw [hb.block _ (lt_of_some h.node)]; exact h.node, by rw [hb.block _ (lt_of_some h.more)]; exact h.more, bl_then h.bl hb⟩
theorem St.alloc {w : World} {cs : Array Value} {w1 : World} (h : St w cs w1) (o : Obj) : St w cs (w1.alloc o) := h.on ((Below.refl _ _).alloc (Nat.le_refl _) o)
theorem St.lt {w : World} {cs : Array Value} {w1 : World} (h : St w cs w1) : w.heap.size + 4 ≤ w1.heap.size := lt_of_some h.more
theorem St.cell {w : World} {cs : Array Value} {w1 : World} (h : St w cs w1) (i : Nat) : w1.cell? ⟨w.heap.size, i, none⟩ = cs[i]? := by simp [World.cell?, h.box]
/-- The world behind the first statements. -/
def st0 (w : World) (cs : Array Value) : World := ((((w.alloc (.cells cs 110)).alloc nd0).alloc nd0).alloc (.cells zS 110)).setRow (w.heap.size + 3) cs
theorem St.start (w : World) (cs : Array Value) : St w cs (st0 w cs) := by
  have h3 : ((((w.alloc (.cells cs 110)).alloc nd0).alloc nd0).alloc (.cells zS 110)).heap[w.heap.size + 3]? = some (.cells zS 110) := by
    have := heap_alloc_new (((w.alloc (.cells cs 110)).alloc nd0).alloc nd0) (.cells zS 110)
    simpa using this
  have ho : ∀ i, i < w.heap.size + 3 → (st0 w cs).heap[i]? = (((w.alloc (.cells cs 110)).alloc nd0).alloc nd0).heap[i]? := fun i hi => by
    have e1 : (st0 w cs).heap[i]? = ((((w.alloc (.cells cs 110)).alloc nd0).alloc nd0).alloc (.cells zS 110)).heap[i]? := by
      unfold st0
      simp [World.setRow, Array.getElem?_modify]
      intro e; omega
    rw [e1, heap_alloc_old _ _ (by simp; omega)]
  have h2 : (((w.alloc (.cells cs 110)).alloc nd0).alloc nd0).heap[w.heap.size + 2]? = some nd0 := by
    have := heap_alloc_new ((w.alloc (.cells cs 110)).alloc nd0) nd0
    simpa using this
  refine ⟨?_, ?_, ?_, setRow_at h3, ?_⟩
  · rw [ho _ (by omega), heap_alloc_old _ _ (by simp; omega), heap_alloc_old _ _ (by simp)]; exact heap_alloc_new w _
  · rw [ho _ (by omega), heap_alloc_old _ _ (by simp)]
    have := heap_alloc_new (w.alloc (.cells cs 110)) nd0
    simpa using this
  · rw [ho _ (by omega)]; exact h2
  · exact Kept.to_below (setRow_kept _ ((((Kept.alloc w _ (fun _ => False)).alloc_r _).alloc_r _).alloc_r _) (by omega)) (fun _ h => h.elim)
theorem St.wrote {w : World} {cs : Array Value} {w1 : World} (_h : St w cs w1) (v0 v1 v2 v3 : Value) {W : World} (hW : W = ((((w1.setCell ⟨w.heap.size + 2, 0, none⟩ v0).setCell ⟨w.heap.size + 2, 1, none⟩ v1).setCell ⟨w.heap.size + 2, 2, none⟩ v2).setCell ⟨w.heap.size + 2, 3, none⟩ v3)) (i : Nat) (hi : i ≠ w.heap.size + 2) : W.heap[i]? = w1.heap[i]? := by
  rw [hW]; exact set4o hi
theorem St.ndf {w : World} {cs : Array Value} {w1 : World} (h : St w cs w1) : w1.cell? ⟨w.heap.size + 2, 0, none⟩ = some (.bool false) ∧ w1.cell? ⟨w.heap.size + 2, 1, none⟩ = some (.string ⟨#[]⟩) ∧ w1.cell? ⟨w.heap.size + 2, 2, none⟩ = some (.slice none 0 0) ∧ w1.cell? ⟨w.heap.size + 2, 3, none⟩ = some (.int .i64 0) ∧ w1.frozen? ⟨w.heap.size + 2, 0, none⟩ = false ∧ w1.frozen? ⟨w.heap.size + 2, 1, none⟩ = false ∧ w1.frozen? ⟨w.heap.size + 2, 2, none⟩ = false ∧ w1.frozen? ⟨w.heap.size + 2, 3, none⟩ = false := nd_free h.node
theorem St.wcell {w : World} {cs : Array Value} {w1 : World} (h : St w cs w1) (v0 v1 v2 v3 : Value) (i : Nat) : ((((w1.setCell ⟨w.heap.size + 2, 0, none⟩ v0).setCell ⟨w.heap.size + 2, 1, none⟩ v1).setCell ⟨w.heap.size + 2, 2, none⟩ v2).setCell ⟨w.heap.size + 2, 3, none⟩ v3).cell? ⟨w.heap.size, i, none⟩ = cs[i]? := by
  have hw : ((((w1.setCell ⟨w.heap.size + 2, 0, none⟩ v0).setCell ⟨w.heap.size + 2, 1, none⟩ v1).setCell ⟨w.heap.size + 2, 2, none⟩ v2).setCell ⟨w.heap.size + 2, 3, none⟩ v3).heap[w.heap.size]? = w1.heap[w.heap.size]? := set4o (by omega)
  exact (World.cell?_of_block (w := w1) (a := ⟨w.heap.size, i, none⟩) hw).trans (h.cell i)
/-- Behind what makes the node: all that is still looked at. -/
structure Sn (w : World) (cs : Array Value) (nd : Nd) (w' : World) : Prop where
  res : w'.heap[w.heap.size + 1]? = some nd0
  node : ∃ il wd ks p a c, nd = .mk il wd ks p ∧ w'.heap[w.heap.size + 2]? = some (.cells #[.bool il, .string (bs wd), .slice a ks.length c, .int .i64 p] 66) ∧ ks.length ≤ c ∧ kNd.row w' (fun b => w.heap.size + 4 ≤ b) a ks
  more : w'.heap[w.heap.size + 3]? = some (.cells cs 110)
  bl : Below w.heap.size w w'
theorem Sn.of {w : World} {cs : Array Value} {w1 : World} (h : St w cs w1) {il : Bool} {wd : List UInt8} {ks : List Nd} {p : Int} {a : Option Addr} {c n : Nat} (hn : n = ks.length) (hc : ks.length ≤ c) (hr : kNd.row w1 (fun b => w.heap.size + 4 ≤ b) a ks) {W : World} (hW : ((((w1.setCell ⟨w.heap.size + 2, 0, none⟩ (.bool il)).setCell ⟨w.heap.size + 2, 1, none⟩ (.string (bs wd))).setCell ⟨w.heap.size + 2, 2, none⟩ (.slice a n c)).setCell ⟨w.heap.size + 2, 3, none⟩ (.int .i64 p)) = W) : Sn w cs (.mk il wd ks p) W := by
  subst hn
  have hW := hW.symm
  refine ⟨by rw [h.wrote _ _ _ _ hW _ (by omega)]; exact h.res, ⟨il, wd, ks, p, a, c, rfl, by rw [hW]; exact set4c h.node, hc, kNd.row_mono (by decide) hr fun i hi _ => ⟨hi, h.wrote _ _ _ _ hW _ (by omega)⟩⟩, by rw [h.wrote _ _ _ _ hW _ (by omega)]; exact h.more, ?_⟩
  rw [hW]; exact bl_set4 h.bl _ _ _ _ _ (by omega)
theorem Sn.ofRow {w : World} {cs : Array Value} {w1 : World} (h : St w cs w1) {il : Bool} {wd : List UInt8} {ks : List Nd} {p : Int} {a : Option Addr} {c : Nat} (hc : ks.length ≤ c) (hr : kNd.row w1 (fun b => w.heap.size + 4 ≤ b) a ks) {W : World} (hW : w1.setRow (w.heap.size + 2) #[.bool il, .string (bs wd), .slice a ks.length c, .int .i64 p] = W) : Sn w cs (.mk il wd ks p) W := by
  have ho : ∀ i, i ≠ w.heap.size + 2 → W.heap[i]? = w1.heap[i]? := fun i hi => by
    rw [← hW]
    simp [World.setRow, Array.getElem?_modify]
    intro e; omega
  refine ⟨by rw [ho _ (by omega)]; exact h.res, ⟨il, wd, ks, p, a, c, rfl, by rw [← hW]; exact setRow_at h.node, hc, kNd.row_mono (by decide) hr fun i hi _ => ⟨hi, ho _ (by omega)⟩⟩, by rw [ho _ (by omega)]; exact h.more, ?_⟩
  rw [← hW]
  exact Kept.to_below (setRow_kept _ (Below.kept h.bl (fun _ => False)) (by omega)) (fun _ h => h.elim)
theorem bl_set4o {a b : World} (h : Below a.heap.size a b) (k o0 o1 o2 o3 : Nat) (v0 v1 v2 v3 : Value) (hk : a.heap.size ≤ k) : Below a.heap.size a ((((b.setCell ⟨k, o0, none⟩ v0).setCell ⟨k, o1, none⟩ v1).setCell ⟨k, o2, none⟩ v2).setCell ⟨k, o3, none⟩ v3) :=
  bl_set (bl_set (bl_set (bl_set h _ _ _ hk) _ _ _ hk) _ _ _ hk) _ _ _ hk
theorem set5 {w : World} {b o0 o1 o2 o3 o4 : Nat} {v0 v1 v2 v3 v4 : Value} {c : Array Value} {e : TypeId} {f : Nat × Nat} (h : w.heap[b]? = some (.cells c e f)) : (((((w.setCell ⟨b, o0, none⟩ v0).setCell ⟨b, o1, none⟩ v1).setCell ⟨b, o2, none⟩ v2).setCell ⟨b, o3, none⟩ v3).setCell ⟨b, o4, none⟩ v4).heap[b]? = some (.cells (((((c.setIfInBounds o0 v0).setIfInBounds o1 v1).setIfInBounds o2 v2).setIfInBounds o3 v3).setIfInBounds o4 v4) e f) :=
  set_over (set_over (set_over (set_over (set_over h))))
theorem bl_set5 {a b : World} (h : Below a.heap.size a b) (k o0 o1 o2 o3 o4 : Nat) (v0 v1 v2 v3 v4 : Value) (hk : a.heap.size ≤ k) : Below a.heap.size a (((((b.setCell ⟨k, o0, none⟩ v0).setCell ⟨k, o1, none⟩ v1).setCell ⟨k, o2, none⟩ v2).setCell ⟨k, o3, none⟩ v3).setCell ⟨k, o4, none⟩ v4) :=
  bl_set (bl_set4o h k o0 o1 o2 o3 v0 v1 v2 v3 hk) _ _ _ hk
/-- Three nodes as a row. -/
theorem three_row {w : World} {S : Nat → Prop} {il1 il2 il3 : Bool} {wd1 wd2 wd3 : List UInt8} {ks1 ks2 ks3 : List Nd} {p1 p2 p3 : Int} {a1 a2 a3 : Option Addr} {c1 c2 c3 : Nat} (h1 : ks1.length ≤ c1) (r1 : kNd.row w S a1 ks1) (h2 : ks2.length ≤ c2) (r2 : kNd.row w S a2 ks2) (h3 : ks3.length ≤ c3) (r3 : kNd.row w S a3 ks3) :
    kNd.row (w.alloc (.cells #[.bool il1, .string (bs wd1), .slice a1 ks1.length c1, .int .i64 p1, .bool il2, .string (bs wd2), .slice a2 ks2.length c2, .int .i64 p2, .bool il3, .string (bs wd3), .slice a3 ks3.length c3, .int .i64 p3] 66)) (fun b => S b ∨ b = w.heap.size) (some ⟨w.heap.size, 0, none⟩) [.mk il1 wd1 ks1 p1, .mk il2 wd2 ks2 p2, .mk il3 wd3 ks3 p3] :=
  kNd.lay_blk (cs := [.bool il1, .string (bs wd1), .slice a1 ks1.length c1, .int .i64 p1, .bool il2, .string (bs wd2), .slice a2 ks2.length c2, .int .i64 p2, .bool il3, .string (bs wd3), .slice a3 ks3.length c3, .int .i64 p3]) ⟨_, _, rfl, nd_C h1 r1, _, _, rfl, nd_C h2 r2, _, _, rfl, nd_C h3 r3, rfl⟩
theorem none_nil : Ex.none.isNil = true := by decide
theorem bare_new {fr to : Int} {ix e : Ex} {body els : List Sm} (h : fr = 0 ∧ to = 0 ∧ ix.isNil = true ∧ e.isNil = true ∧ body = [] ∧ els = []) : bareB [] false 0 fr to ix e body els = true := by
  obtain ⟨rfl, rfl, h5, h6, rfl, rfl⟩ := h
  simp [bareB, h5, h6]
theorem new_bare {fr to : Int} {ix e : Ex} {body els : List Sm} (h : bareB [] false 0 fr to ix e body els = true) : fr = 0 ∧ to = 0 ∧ ix.isNil = true ∧ e.isNil = true ∧ body = [] ∧ els = [] := by
  simp only [bareB, Bool.and_eq_true, beq_iff_eq, Bool.not_eq_true', List.isEmpty_iff] at h
  exact ⟨h.2.2.1, h.2.2.2.1, h.2.2.2.2.1, h.2.2.2.2.2.1, h.2.2.2.2.2.2.1, h.2.2.2.2.2.2.2⟩
theorem bare_put {sec : Bool} {len fr to : Int} {body els : List Sm} (h : sec = false ∧ len = 0 ∧ fr = 0 ∧ to = 0 ∧ body = [] ∧ els = []) : bareB [] sec len fr to .none .none body els = true := by
  obtain ⟨rfl, rfl, rfl, rfl, rfl, rfl⟩ := h
  simp [bareB, none_nil]
theorem put_bare {sec : Bool} {len fr to : Int} {body els : List Sm} (h : bareB [] sec len fr to .none .none body els = true) : sec = false ∧ len = 0 ∧ fr = 0 ∧ to = 0 ∧ body = [] ∧ els = [] := by
  simp only [bareB, Bool.and_eq_true, beq_iff_eq, Bool.not_eq_true', List.isEmpty_iff] at h
  exact ⟨h.2.1.1, h.2.1.2, h.2.2.1, h.2.2.2.1, h.2.2.2.2.2.2.1, h.2.2.2.2.2.2.2⟩
theorem bare_if {name : List UInt8} {sec : Bool} {len fr to : Int} {ix : Ex} (h : name = [] ∧ sec = false ∧ len = 0 ∧ fr = 0 ∧ to = 0 ∧ ix.isNil = true) : bareB name sec len fr to ix .none [] [] = true := by
  obtain ⟨rfl, rfl, rfl, rfl, rfl, h6⟩ := h
  simp [bareB, none_nil, h6]
theorem if_bare {name : List UInt8} {sec : Bool} {len fr to : Int} {ix : Ex} (h : bareB name sec len fr to ix .none [] [] = true) : name = [] ∧ sec = false ∧ len = 0 ∧ fr = 0 ∧ to = 0 ∧ ix.isNil = true := by
  simp only [bareB, Bool.and_eq_true, beq_iff_eq, Bool.not_eq_true', List.isEmpty_iff] at h
  exact ⟨h.1, h.2.1.1, h.2.1.2, h.2.2.1, h.2.2.2.1, h.2.2.2.2.1⟩
theorem bare_for {sec : Bool} {len : Int} {ix e : Ex} {els : List Sm} (h : sec = false ∧ len = 0 ∧ ix.isNil = true ∧ e.isNil = true ∧ els = []) : bareB [] sec len 0 0 ix e [] els = true := by
  obtain ⟨rfl, rfl, h5, h6, rfl⟩ := h
  simp [bareB, h5, h6]
theorem for_bare {sec : Bool} {len : Int} {ix e : Ex} {els : List Sm} (h : bareB [] sec len 0 0 ix e [] els = true) : sec = false ∧ len = 0 ∧ ix.isNil = true ∧ e.isNil = true ∧ els = [] := by
  simp only [bareB, Bool.and_eq_true, beq_iff_eq, Bool.not_eq_true', List.isEmpty_iff] at h
  exact ⟨h.2.1.1, h.2.1.2, h.2.2.2.2.1, h.2.2.2.2.2.1, h.2.2.2.2.2.2.2⟩
/-- The node is made; the statement is looked at no more. -/
structure Sm5 (w : World) (nd : Nd) (w' : World) : Prop where
  res : w'.heap[w.heap.size + 1]? = some nd0
  node : ∃ il wd ks p a c, nd = .mk il wd ks p ∧ w'.heap[w.heap.size + 2]? = some (.cells #[.bool il, .string (bs wd), .slice a ks.length c, .int .i64 p] 66) ∧ ks.length ≤ c ∧ kNd.row w' (fun b => w.heap.size + 4 ≤ b) a ks
  bl : Below w.heap.size w w'
theorem Sm5.of {w : World} {cs : Array Value} {nd : Nd} {w6 W : World} (h : Sn w cs nd w6) (hW : ∀ i, i ≠ w.heap.size + 3 → W.heap[i]? = w6.heap[i]?) (hb : Below w.heap.size w W) : Sm5 w nd W := by
  obtain ⟨il, wd, ks, p, a, c, he, hn, hc, hr⟩ := h.node
  exact ⟨by rw [hW _ (by omega)]; exact h.res, ⟨il, wd, ks, p, a, c, he, by rw [hW _ (by omega)]; exact hn, hc, kNd.row_mono (by decide) hr fun i hi _ => ⟨hi, hW _ (by omega)⟩⟩, hb⟩
theorem Sm5.on {w : World} {nd : Nd} {w1 w2 : World} (h : Sm5 w nd w1) (hb : Below w1.heap.size w1 w2) : Sm5 w nd w2 := by
  obtain ⟨il, wd, ks, p, a, c, he, hn, hc, hr⟩ := h.node
  exact ⟨by rw [hb.block _ (lt_of_some h.res)]; exact h.res, ⟨il, wd, ks, p, a, c, he, by rw [hb.block _ (lt_of_some hn)]; exact hn, hc, row_on hr hb⟩, bl_then h.bl hb⟩
theorem bare_let {sec : Bool} {len fr to : Int} {ix : Ex} {body els : List Sm} (h : sec = false ∧ len = 0 ∧ fr = 0 ∧ to = 0 ∧ ix.isNil = true ∧ body = [] ∧ els = []) : bareB [] sec len fr to ix .none body els = true := by
  obtain ⟨rfl, rfl, rfl, rfl, h5, rfl, rfl⟩ := h
  have h0 : Ex.none.isNil = true := by decide
  simp [bareB, h5, h0]
theorem let_bare {sec : Bool} {len fr to : Int} {ix : Ex} {body els : List Sm} (h : bareB [] sec len fr to ix .none body els = true) : sec = false ∧ len = 0 ∧ fr = 0 ∧ to = 0 ∧ ix.isNil = true ∧ body = [] ∧ els = [] := by
  simp only [bareB, Bool.and_eq_true, beq_iff_eq, Bool.not_eq_true', List.isEmpty_iff] at h
  exact ⟨h.2.1.1, h.2.1.2, h.2.2.1, h.2.2.2.1, h.2.2.2.2.1, h.2.2.2.2.2.2.1, h.2.2.2.2.2.2.2⟩
end Go.Proofs.YtbpdhegfdmppgaaGreatDoor.Sh

/- CONTRACT of stmtNode at let. -/
namespace Go.Proofs.YtbpdhegfdmppgaaGreatDoor.Sh
open Go.ChangeShapes Go.WideShapes Go.ChangeAt Go.RowKit

set_option maxRecDepth 100000 in
set_option maxHeartbeats 2000000 in
theorem stmt_let_yes {B : Nat} {S : Nat → Prop} (cs : Array Value) (name : List UInt8) (sec : Bool) (len fr to k1 : Int) (n1 : Nat) (o1 : Int) (m1 : List UInt8) (l1 : List Ex) (k2 : Int) (n2 : Nat) (o2 : Int) (m2 : List UInt8) (l2 : List Ex) (body els : List Sm) (a1 : Option Addr) (c1 : Nat) (a2 : Option Addr) (c2 : Nat) (a3 : Option Addr) (c3 : Nat) (a4 : Option Addr) (c4 : Nat) (w : World)
    (hcs : cs = smA 1 name sec len fr to k1 n1 o1 m1 a1 l1.length c1 k2 n2 o2 m2 a2 l2.length c2 a3 body.length c3 a4 els.length c4) (hg : Glob B w) (hr2 : exR w S a2 l2) (hc2 : l2.length ≤ c2) (hm2 : exW (.mk k2 n2 o2 m2 l2) ≤ 1000000) (hok2 : exOk (.mk k2 n2 o2 m2 l2)) (hn : isName name = true) (il2 : Bool) (wd2 : List UInt8) (ks2 : List Nd) (p2 : Int) (hs2 : shE (.mk k2 n2 o2 m2 l2) = some (.mk il2 wd2 ks2 p2)) :
    Calls Tryz.prog 89 #[.agg cs] w (Shows NdV w (shS (.mk 1 name sec len fr to (.mk k1 n1 o1 m1 l1) (.mk k2 n2 o2 m2 l2) body els))) := by
  have HN : Hid (∀ w1, St w cs w1 → Calls Tryz.prog 90 #[exV k2 n2 o2 m2 a2 l2.length c2] w1 (Shows NdV w1 (some (.mk il2 wd2 ks2 p2)))) := fun w1 h1 => by
    rw [← hs2]
    exact expr_any _ w1 _ hm2 hok2 (hg.below h1.bl) ⟨a2, c2, rfl, hc2, exR_mono (T := S) (fun i hi hlt => ⟨hi, h1.bl.block i hlt⟩) hr2⟩
  have hnm := nameNode_any name
  rw [shName, if_pos hn] at hnm
  have q0 : cs[0]? = some (.int .i64 1) := by rw [hcs]; rfl
  have q1 : cs[1]? = some (.string (bs name)) := by rw [hcs]; rfl
  have q11 : cs[11]? = some (.int .i64 k2) := by rw [hcs]; rfl
  have q12 : cs[12]? = some (.int .u32 (n2 : Nat)) := by rw [hcs]; rfl
  have q13 : cs[13]? = some (.int .i64 o2) := by rw [hcs]; rfl
  have q14 : cs[14]? = some (.string (bs m2)) := by rw [hcs]; rfl
  have q15 : cs[15]? = some (.slice a2 l2.length c2) := by rw [hcs]; rfl
  have HCS : Hid (cs = smA 1 name sec len fr to k1 n1 o1 m1 a1 l1.length c1 k2 n2 o2 m2 a2 l2.length c2 a3 body.length c3 a4 els.length c4) := hcs
  have hia : (Tryz.prog.info? 110).map (·.size) = some cs.size := by rw [hcs]; exact info_stmt
  have hzs : zS.size = cs.size := by rw [hcs]; rfl
  have hone : cs.all (·.oneCell') = true := by rw [hcs]; simp [smA, Value.oneCell']
  clear hcs hr2 hm2 hok2 hg hc2
  obtain ⟨w1, hw1⟩ : ∃ w1, w1 = st0 w cs := ⟨_, rfl⟩
  have R0 : St w cs w1 := by rw [hw1]; exact St.start w cs
  have HW1 : Hid (w1 = ((((w.alloc (.cells cs 110)).alloc nd0).alloc nd0).alloc (.cells zS 110)).setRow (w.heap.size + 3) cs) := hw1
  clear hw1
  have hbx : (((w.alloc (.cells cs 110)).alloc nd0).alloc nd0).heap[w.heap.size]? = some (.cells cs 110 (0, 0)) := by
    rw [heap_alloc_old _ _ (by simp; omega), heap_alloc_old _ _ (by simp)]; exact heap_alloc_new w _
  have hmo : ((((w.alloc (.cells cs 110)).alloc nd0).alloc nd0).alloc (.cells zS 110)).heap[w.heap.size + 3]? = some (.cells zS 110 (0, 0)) := by
    have := heap_alloc_new (((w.alloc (.cells cs 110)).alloc nd0).alloc nd0) (.cells zS 110)
    simpa using this
  have cb := R0.cell
  have sz := R0.lt
  have R1 : St w cs w1.drew := R0.on (drew_bl w1)
  go_enter Tryz.func89, Tryz.ntmps89
  go_wp2_with (first | (refine wpList_load_row rfl 110 (.tmp 1) rfl w.heap.size rfl 110 cs (0, 0) _ hbx Tryz.underlying110 rfl hia ?_) | (refine wpList_store_row rfl 110 (.tmp 4) _ rfl (w.heap.size + 3) cs rfl rfl 110 zS hmo hia hzs hone ?_; rw [← HW1.out]; clear hbx hmo))
  have s1 : w1.cell? ⟨w.heap.size, 1, none⟩ = some (.string (bs name)) ∧ w1.cell? ⟨w.heap.size, 11, none⟩ = some (.int .i64 k2) ∧ w1.cell? ⟨w.heap.size, 12, none⟩ = some (.int .u32 (n2 : Nat)) ∧ w1.cell? ⟨w.heap.size, 13, none⟩ = some (.int .i64 o2) ∧ w1.cell? ⟨w.heap.size, 14, none⟩ = some (.string (bs m2)) ∧ w1.cell? ⟨w.heap.size, 15, none⟩ = some (.slice a2 l2.length c2) := ⟨(R0.cell 1).trans q1, (R0.cell 11).trans q11, (R0.cell 12).trans q12, (R0.cell 13).trans q13, (R0.cell 14).trans q14, (R0.cell 15).trans q15⟩
  clear cb
  go_region_held3 (fun w' => w'.cell? ⟨w.heap.size, 1, none⟩ = some (.string (bs name)) ∧ w'.cell? ⟨w.heap.size, 11, none⟩ = some (.int .i64 k2) ∧ w'.cell? ⟨w.heap.size, 12, none⟩ = some (.int .u32 (n2 : Nat)) ∧ w'.cell? ⟨w.heap.size, 13, none⟩ = some (.int .i64 o2) ∧ w'.cell? ⟨w.heap.size, 14, none⟩ = some (.string (bs m2)) ∧ w'.cell? ⟨w.heap.size, 15, none⟩ = some (.slice a2 l2.length c2))
    (first | with_reducible exact ⟨(R9.wcell _ _ _ _ 1).trans q1, (R9.wcell _ _ _ _ 11).trans q11, (R9.wcell _ _ _ _ 12).trans q12, (R9.wcell _ _ _ _ 13).trans q13, (R9.wcell _ _ _ _ 14).trans q14, (R9.wcell _ _ _ _ 15).trans q15⟩ | with_reducible exact ⟨(R9.cell 1).trans q1, (R9.cell 11).trans q11, (R9.cell 12).trans q12, (R9.cell 13).trans q13, (R9.cell 14).trans q14, (R9.cell 15).trans q15⟩ | with_reducible exact ⟨((R3.alloc _).cell 1).trans q1, ((R3.alloc _).cell 11).trans q11, ((R3.alloc _).cell 12).trans q12, ((R3.alloc _).cell 13).trans q13, ((R3.alloc _).cell 14).trans q14, ((R3.alloc _).cell 15).trans q15⟩ | with_reducible exact ⟨(R3.cell 1).trans q1, (R3.cell 11).trans q11, (R3.cell 12).trans q12, (R3.cell 13).trans q13, (R3.cell 14).trans q14, (R3.cell 15).trans q15⟩ | with_reducible exact ⟨(R2.cell 1).trans q1, (R2.cell 11).trans q11, (R2.cell 12).trans q12, (R2.cell 13).trans q13, (R2.cell 14).trans q14, (R2.cell 15).trans q15⟩ | with_reducible exact ⟨(R1.cell 1).trans q1, (R1.cell 11).trans q11, (R1.cell 12).trans q12, (R1.cell 13).trans q13, (R1.cell 14).trans q14, (R1.cell 15).trans q15⟩ | go_keep)
    (first | (go_at_call 77; refine (hnm _).mono ?_; rintro e w2 hG2; obtain ⟨v2, rfl, a21, k21, rfl, hc21, hr21⟩ := hG2.ok _ rfl; have R2 := R1.on hG2.below; have sz2 := R2.lt) | (go_at_call 90; refine (HN.out _ R2).mono ?_; rintro e w3 hG3; obtain ⟨v3, rfl, a31, k31, rfl, hc31, hr31⟩ := hG3.ok _ rfl; have R3 := R2.on hG3.below; have sz3 := R3.lt; have hro := two_row (il1 := false) (wd1 := name) (p1 := 0) (il2 := il2) (wd2 := wd2) (p2 := p2) (S := fun b => w.heap.size + 4 ≤ b) hc21 (kNd.row_mono (by decide) (row_on hr21 hG3.below) (fun i hi _ => ⟨by have : w1.heap.size ≤ i := hi; omega, rfl⟩)) hc31 (kNd.row_mono (by decide) hr31 (fun i hi _ => ⟨by omega, rfl⟩)); have hfo := form_any [108, 101, 116] (some ⟨w3.heap.size, 0, none⟩) [.mk false name [] 0, .mk il2 wd2 ks2 p2] 2 _ hro (by simp)) | (go_at_call 76; refine hfo.mono ?_; rintro e w9 ⟨⟨v9, rfl, a9, k9, rfl, hc9, hr9⟩, hb9⟩; have R9 := (R3.alloc _).on hb9; obtain ⟨d0, d1, d2, d3, z0, z1, z2, z3⟩ := R9.ndf))
  have sz5 := R9.lt
  generalize hw6 : ((((w9.setCell ⟨w.heap.size + 1 + 1, 0, none⟩ (.bool true)).setCell ⟨w.heap.size + 1 + 1, 1, none⟩ (.string (bs []))).setCell ⟨w.heap.size + 1 + 1, 2, none⟩ (.slice a9 3 k9)).setCell ⟨w.heap.size + 1 + 1, 3, none⟩ (.int .i64 0)) = w6
  simp only [Nat.add_assoc, Nat.reduceAdd] at hw6
  have R6 : Sn w cs (fm [108, 101, 116] [.mk false name [] 0, .mk il2 wd2 ks2 p2]) w6 := Sn.of R9 (n := 3) rfl hc9 (kNd.row_mono (by decide) hr9 fun i hi _ => ⟨by rcases hi with (hi | hi) | hi; exact hi; omega; (simp at hi; omega), rfl⟩) hw6
  have HR6 : Hid _ := R6
  have hmo6 : w6.heap[w.heap.size + 1 + 1 + 1]? = some (.cells cs 110 (0, 0)) := R6.more
  have cm : ∀ i, w6.cell? ⟨w.heap.size + 1 + 1 + 1, i, none⟩ = cs[i]? := fun i => by simp [World.cell?, hmo6]
  have fz : ∀ i, w6.frozen? ⟨w.heap.size + 1 + 1 + 1, i, none⟩ = false := fun i => by simp [World.frozen?, hmo6]
  clear hw6 R6 hfo hr9 hb9 R1 R2 R3 R9 R0 hG2 hG3 hro hr21 hr31 s1 d0 d1 d2 d3 z0 z1 z2 z3 hnm
  have HM6 : Hid _ := hmo6
  clear hmo6
  have hiaM : ∀ (M : Array Value), M.size = cs.size → (Tryz.prog.info? 110).map (·.size) = some M.size := fun M h => by rw [h]; exact hia
  clear hia hzs hone HW1
  have HIB : Hid (∀ W : World, Calls Tryz.prog 110 #[.agg ((((((cs.setIfInBounds 1 (.string ⟨#[]⟩)).setIfInBounds 11 (.int .i64 0)).setIfInBounds 12 (.int .u32 0)).setIfInBounds 13 (.int .i64 0)).setIfInBounds 14 (.string ⟨#[]⟩)).setIfInBounds 15 (.slice none 0 0))] W fun e w' => e = .returned (.bool (bareB [] sec len fr to (.mk k1 n1 o1 m1 l1) .none body els)) ∧ Below W.heap.size W w') := fun W => isBare_any _ 1 [] sec len fr to k1 n1 o1 m1 l1 0 0 0 [] [] body els a1 c1 none 0 a3 c3 a4 c4 W (by rw [HCS.out]; simp only [smA, List.setIfInBounds_toArray, List.set_cons_zero, List.set_cons_succ]; rfl)
  have hR : ∀ W : World, Hid (((((((w6.setCell ⟨w.heap.size + 1 + 1 + 1, 1, none⟩ (.string ⟨#[]⟩)).setCell ⟨w.heap.size + 1 + 1 + 1, 11, none⟩ (.int .i64 0)).setCell ⟨w.heap.size + 1 + 1 + 1, 12, none⟩ (.int .u32 0)).setCell ⟨w.heap.size + 1 + 1 + 1, 13, none⟩ (.int .i64 0)).setCell ⟨w.heap.size + 1 + 1 + 1, 14, none⟩ (.string ⟨#[]⟩)).setCell ⟨w.heap.size + 1 + 1 + 1, 15, none⟩ (.slice none 0 0)) = W) → Sm5 w (fm [108, 101, 116] [.mk false name [] 0, .mk il2 wd2 ks2 p2]) W := fun W hW => by
    have e := hW.out
    subst e
    exact Sm5.of HR6.out (fun i hi => by rw [setCell_other hi, setCell_other hi, setCell_other hi, setCell_other hi, setCell_other hi, setCell_other hi]) (bl_set5 (bl_set HR6.out.bl _ _ _ (by omega)) _ _ _ _ _ _ _ _ _ _ _ (by omega))
  go_wp2_with (first | (refine wpList_load_row rfl 110 (.tmp 4) rfl (w.heap.size + 1 + 1 + 1) rfl 110 ((((((cs.setIfInBounds 1 (.string ⟨#[]⟩)).setIfInBounds 11 (.int .i64 0)).setIfInBounds 12 (.int .u32 0)).setIfInBounds 13 (.int .i64 0)).setIfInBounds 14 (.string ⟨#[]⟩)).setIfInBounds 15 (.slice none 0 0)) (0, 0) _ ?_ Tryz.underlying110 rfl ?_ ?_; (exact (set5 (set_over HM6.out))); (exact hiaM _ (by simp)); refine Hid.out ?_))
  generalize hw7 : ((((((w6.setCell ⟨w.heap.size + 1 + 1 + 1, 1, none⟩ (.string ⟨#[]⟩)).setCell ⟨w.heap.size + 1 + 1 + 1, 11, none⟩ (.int .i64 0)).setCell ⟨w.heap.size + 1 + 1 + 1, 12, none⟩ (.int .u32 0)).setCell ⟨w.heap.size + 1 + 1 + 1, 13, none⟩ (.int .i64 0)).setCell ⟨w.heap.size + 1 + 1 + 1, 14, none⟩ (.string ⟨#[]⟩)).setCell ⟨w.heap.size + 1 + 1 + 1, 15, none⟩ (.slice none 0 0)) = w7
  have HR7 := hR w7 hw7
  clear hw7 hR cm fz HM6 hiaM HR6
  refine Lib.hid ?_
  cases hbr : bareB [] sec len fr to (.mk k1 n1 o1 m1 l1) .none body els with
  | false =>
    rw [hbr] at HIB
    have HF : Hid (shS (.mk 1 name sec len fr to (.mk k1 n1 o1 m1 l1) (.mk k2 n2 o2 m2 l2) body els) = none) := by
      show _ = _
      rw [shS, if_pos rfl, shName, if_pos hn, hs2]
      simp only [Option.bind_some]
      rw [if_neg fun h => by rw [bare_let h] at hbr; cases hbr]
    clear hbr
    go_wp2_with (first | (go_at_call 110; refine (HIB.out _).mono ?_; rintro e w8 ⟨rfl, hb8⟩) | (go_at_call 75; refine (must_no _).mono ?_; rintro e w9 ⟨rfl, rfl⟩))
    exact ⟨rfl, .ofBad HF.out (bl_then HR7.bl hb8)⟩
  | true =>
    rw [hbr] at HIB
    have HF : Hid (shS (.mk 1 name sec len fr to (.mk k1 n1 o1 m1 l1) (.mk k2 n2 o2 m2 l2) body els) = some (fm [108, 101, 116] [.mk false name [] 0, .mk il2 wd2 ks2 p2])) := by
      show _ = _
      rw [shS, if_pos rfl, shName, if_pos hn, hs2]
      simp only [Option.bind_some]
      rw [if_pos (let_bare hbr)]; rfl
    clear hbr
    go_wp2_with (first | (go_at_call 110; refine (HIB.out _).mono ?_; rintro e w8 ⟨rfl, hb8⟩; have R8 := HR7.on hb8; refine Hid.out ?_))
    refine Lib.hid ?_
    obtain ⟨il, wd, ks, p, na, nc, hnd, hno, hnc, hnr⟩ := R8.node
    rw [hnd] at HF
    have hres8 := R8.res
    have HB8 : Hid (Below w.heap.size w w8) := R8.bl
    have HNR : Hid _ := hnr
    have nlt : w.heap.size + 1 + 1 < w8.heap.size := lt_of_some hno
    obtain ⟨e0, e1, e2, e3, f0, f1, f2, f3⟩ := nd_free (b := w.heap.size + 1 + 1) hno
    obtain ⟨d0, d1, d2, d3, g0, g1, g2, g3⟩ := nd_free hres8
    clear hb8 HR7 R8 hno hnd hnr HIB
    go_wp2_with (first | (go_at_call 75; refine (must_yes _).mono ?_; rintro e w9 ⟨rfl, hq⟩; have hq' := hq.symm; subst hq'))
    exact bodyPost_ret_by (results_row Tryz.results89 rfl (load_nd (set4c hres8) rfl)) rfl (.ofOk HF.out (bl_set4 HB8.out _ _ _ _ _ (by omega)) ⟨na, nc, rfl, hnc, kNd.row_mono (by decide) HNR.out fun i hi _ => ⟨by omega, set4o (by omega)⟩⟩)
set_option maxRecDepth 100000 in
set_option maxHeartbeats 2000000 in
theorem stmt_let_name (cs : Array Value) (name : List UInt8) (sec : Bool) (len fr to k1 : Int) (n1 : Nat) (o1 : Int) (m1 : List UInt8) (l1 : List Ex) (k2 : Int) (n2 : Nat) (o2 : Int) (m2 : List UInt8) (l2 : List Ex) (body els : List Sm) (a1 : Option Addr) (c1 : Nat) (a2 : Option Addr) (c2 : Nat) (a3 : Option Addr) (c3 : Nat) (a4 : Option Addr) (c4 : Nat) (w : World)
    (hcs : cs = smA 1 name sec len fr to k1 n1 o1 m1 a1 l1.length c1 k2 n2 o2 m2 a2 l2.length c2 a3 body.length c3 a4 els.length c4) (hn : isName name = false) :
    Calls Tryz.prog 89 #[.agg cs] w (Shows NdV w (shS (.mk 1 name sec len fr to (.mk k1 n1 o1 m1 l1) (.mk k2 n2 o2 m2 l2) body els))) := by
  have HF : Hid (shS (.mk 1 name sec len fr to (.mk k1 n1 o1 m1 l1) (.mk k2 n2 o2 m2 l2) body els) = none) := by
    show _ = _
    rw [shS, if_pos rfl, shName, hn]; rfl
  have hnm := nameNode_any name
  have hns : shName name = none := by rw [shName, hn]; rfl
  rw [hns] at hnm
  have q0 : cs[0]? = some (.int .i64 1) := by rw [hcs]; rfl
  have q1 : cs[1]? = some (.string (bs name)) := by rw [hcs]; rfl
  have q11 : cs[11]? = some (.int .i64 k2) := by rw [hcs]; rfl
  have q12 : cs[12]? = some (.int .u32 (n2 : Nat)) := by rw [hcs]; rfl
  have q13 : cs[13]? = some (.int .i64 o2) := by rw [hcs]; rfl
  have q14 : cs[14]? = some (.string (bs m2)) := by rw [hcs]; rfl
  have q15 : cs[15]? = some (.slice a2 l2.length c2) := by rw [hcs]; rfl
  have HCS : Hid (cs = smA 1 name sec len fr to k1 n1 o1 m1 a1 l1.length c1 k2 n2 o2 m2 a2 l2.length c2 a3 body.length c3 a4 els.length c4) := hcs
  have hia : (Tryz.prog.info? 110).map (·.size) = some cs.size := by rw [hcs]; exact info_stmt
  have hzs : zS.size = cs.size := by rw [hcs]; rfl
  have hone : cs.all (·.oneCell') = true := by rw [hcs]; simp [smA, Value.oneCell']
  clear hcs hn hns
  obtain ⟨w1, hw1⟩ : ∃ w1, w1 = st0 w cs := ⟨_, rfl⟩
  have R0 : St w cs w1 := by rw [hw1]; exact St.start w cs
  have HW1 : Hid (w1 = ((((w.alloc (.cells cs 110)).alloc nd0).alloc nd0).alloc (.cells zS 110)).setRow (w.heap.size + 3) cs) := hw1
  clear hw1
  have hbx : (((w.alloc (.cells cs 110)).alloc nd0).alloc nd0).heap[w.heap.size]? = some (.cells cs 110 (0, 0)) := by
    rw [heap_alloc_old _ _ (by simp; omega), heap_alloc_old _ _ (by simp)]; exact heap_alloc_new w _
  have hmo : ((((w.alloc (.cells cs 110)).alloc nd0).alloc nd0).alloc (.cells zS 110)).heap[w.heap.size + 3]? = some (.cells zS 110 (0, 0)) := by
    have := heap_alloc_new (((w.alloc (.cells cs 110)).alloc nd0).alloc nd0) (.cells zS 110)
    simpa using this
  have cb := R0.cell
  have sz := R0.lt
  have R1 : St w cs w1.drew := R0.on (drew_bl w1)
  go_enter Tryz.func89, Tryz.ntmps89
  go_wp2_with (first | (refine wpList_load_row rfl 110 (.tmp 1) rfl w.heap.size rfl 110 cs (0, 0) _ hbx Tryz.underlying110 rfl hia ?_) | (refine wpList_store_row rfl 110 (.tmp 4) _ rfl (w.heap.size + 3) cs rfl rfl 110 zS hmo hia hzs hone ?_; rw [← HW1.out]; clear hbx hmo))
  obtain ⟨t1, t11, t12, t13, t14, t15⟩ : w1.cell? ⟨w.heap.size, 1, none⟩ = some (.string (bs name)) ∧ w1.cell? ⟨w.heap.size, 11, none⟩ = some (.int .i64 k2) ∧ w1.cell? ⟨w.heap.size, 12, none⟩ = some (.int .u32 (n2 : Nat)) ∧ w1.cell? ⟨w.heap.size, 13, none⟩ = some (.int .i64 o2) ∧ w1.cell? ⟨w.heap.size, 14, none⟩ = some (.string (bs m2)) ∧ w1.cell? ⟨w.heap.size, 15, none⟩ = some (.slice a2 l2.length c2) := ⟨(R0.cell 1).trans q1, (R0.cell 11).trans q11, (R0.cell 12).trans q12, (R0.cell 13).trans q13, (R0.cell 14).trans q14, (R0.cell 15).trans q15⟩
  clear cb
  go_region_law (first | (refine step_call rfl 77 _ _ rfl #[.string (bs name)] (by simp [go_sem, Act.eval]) ?_; refine (hnm _).mono ?_; rintro e w2 hG2; obtain rfl := hG2.bad rfl; refine (fun (_ : wpAny Tryz.prog Region.Mode.any #[] (fun _ _ _ => True) 0 #[] ⟨#[], []⟩ w1) => ⟨rfl, .ofBad HF.out (bl_then R1.bl hG2.below)⟩) ?_))
  all_goals trivial
set_option maxRecDepth 100000 in
set_option maxHeartbeats 2000000 in
theorem stmt_let_e {B : Nat} {S : Nat → Prop} (cs : Array Value) (name : List UInt8) (sec : Bool) (len fr to k1 : Int) (n1 : Nat) (o1 : Int) (m1 : List UInt8) (l1 : List Ex) (k2 : Int) (n2 : Nat) (o2 : Int) (m2 : List UInt8) (l2 : List Ex) (body els : List Sm) (a1 : Option Addr) (c1 : Nat) (a2 : Option Addr) (c2 : Nat) (a3 : Option Addr) (c3 : Nat) (a4 : Option Addr) (c4 : Nat) (w : World)
    (hcs : cs = smA 1 name sec len fr to k1 n1 o1 m1 a1 l1.length c1 k2 n2 o2 m2 a2 l2.length c2 a3 body.length c3 a4 els.length c4) (hg : Glob B w) (hr2 : exR w S a2 l2) (hc2 : l2.length ≤ c2) (hm2 : exW (.mk k2 n2 o2 m2 l2) ≤ 1000000) (hok2 : exOk (.mk k2 n2 o2 m2 l2)) (hn : isName name = true) (hs2 : shE (.mk k2 n2 o2 m2 l2) = none) :
    Calls Tryz.prog 89 #[.agg cs] w (Shows NdV w (shS (.mk 1 name sec len fr to (.mk k1 n1 o1 m1 l1) (.mk k2 n2 o2 m2 l2) body els))) := by
  have HF : Hid (shS (.mk 1 name sec len fr to (.mk k1 n1 o1 m1 l1) (.mk k2 n2 o2 m2 l2) body els) = none) := by
    show _ = _
    rw [shS, if_pos rfl, shName, if_pos hn, hs2]; rfl
  have HN : Hid (∀ w1, St w cs w1 → Calls Tryz.prog 90 #[exV k2 n2 o2 m2 a2 l2.length c2] w1 (Shows NdV w1 (none))) := fun w1 h1 => by
    rw [← hs2]
    exact expr_any _ w1 _ hm2 hok2 (hg.below h1.bl) ⟨a2, c2, rfl, hc2, exR_mono (T := S) (fun i hi hlt => ⟨hi, h1.bl.block i hlt⟩) hr2⟩
  have hnm := nameNode_any name
  rw [shName, if_pos hn] at hnm
  have q0 : cs[0]? = some (.int .i64 1) := by rw [hcs]; rfl
  have q1 : cs[1]? = some (.string (bs name)) := by rw [hcs]; rfl
  have q11 : cs[11]? = some (.int .i64 k2) := by rw [hcs]; rfl
  have q12 : cs[12]? = some (.int .u32 (n2 : Nat)) := by rw [hcs]; rfl
  have q13 : cs[13]? = some (.int .i64 o2) := by rw [hcs]; rfl
  have q14 : cs[14]? = some (.string (bs m2)) := by rw [hcs]; rfl
  have q15 : cs[15]? = some (.slice a2 l2.length c2) := by rw [hcs]; rfl
  have HCS : Hid (cs = smA 1 name sec len fr to k1 n1 o1 m1 a1 l1.length c1 k2 n2 o2 m2 a2 l2.length c2 a3 body.length c3 a4 els.length c4) := hcs
  have hia : (Tryz.prog.info? 110).map (·.size) = some cs.size := by rw [hcs]; exact info_stmt
  have hzs : zS.size = cs.size := by rw [hcs]; rfl
  have hone : cs.all (·.oneCell') = true := by rw [hcs]; simp [smA, Value.oneCell']
  clear hcs hr2 hm2 hok2 hg hc2 hn hs2
  obtain ⟨w1, hw1⟩ : ∃ w1, w1 = st0 w cs := ⟨_, rfl⟩
  have R0 : St w cs w1 := by rw [hw1]; exact St.start w cs
  have HW1 : Hid (w1 = ((((w.alloc (.cells cs 110)).alloc nd0).alloc nd0).alloc (.cells zS 110)).setRow (w.heap.size + 3) cs) := hw1
  clear hw1
  have hbx : (((w.alloc (.cells cs 110)).alloc nd0).alloc nd0).heap[w.heap.size]? = some (.cells cs 110 (0, 0)) := by
    rw [heap_alloc_old _ _ (by simp; omega), heap_alloc_old _ _ (by simp)]; exact heap_alloc_new w _
  have hmo : ((((w.alloc (.cells cs 110)).alloc nd0).alloc nd0).alloc (.cells zS 110)).heap[w.heap.size + 3]? = some (.cells zS 110 (0, 0)) := by
    have := heap_alloc_new (((w.alloc (.cells cs 110)).alloc nd0).alloc nd0) (.cells zS 110)
    simpa using this
  have cb := R0.cell
  have sz := R0.lt
  have R1 : St w cs w1.drew := R0.on (drew_bl w1)
  go_enter Tryz.func89, Tryz.ntmps89
  go_wp2_with (first | (refine wpList_load_row rfl 110 (.tmp 1) rfl w.heap.size rfl 110 cs (0, 0) _ hbx Tryz.underlying110 rfl hia ?_) | (refine wpList_store_row rfl 110 (.tmp 4) _ rfl (w.heap.size + 3) cs rfl rfl 110 zS hmo hia hzs hone ?_; rw [← HW1.out]; clear hbx hmo))
  obtain ⟨t1, t11, t12, t13, t14, t15⟩ : w1.cell? ⟨w.heap.size, 1, none⟩ = some (.string (bs name)) ∧ w1.cell? ⟨w.heap.size, 11, none⟩ = some (.int .i64 k2) ∧ w1.cell? ⟨w.heap.size, 12, none⟩ = some (.int .u32 (n2 : Nat)) ∧ w1.cell? ⟨w.heap.size, 13, none⟩ = some (.int .i64 o2) ∧ w1.cell? ⟨w.heap.size, 14, none⟩ = some (.string (bs m2)) ∧ w1.cell? ⟨w.heap.size, 15, none⟩ = some (.slice a2 l2.length c2) := ⟨(R0.cell 1).trans q1, (R0.cell 11).trans q11, (R0.cell 12).trans q12, (R0.cell 13).trans q13, (R0.cell 14).trans q14, (R0.cell 15).trans q15⟩
  clear cb
  go_region_law (first | (refine step_call rfl 77 _ _ rfl #[.string (bs name)] (by simp [go_sem, Act.eval]) ?_; refine (hnm _).mono ?_; rintro e w2 hG2; obtain ⟨v2, rfl, a21, k21, rfl, hc21, hr21⟩ := hG2.ok _ rfl; have R2 := R1.on hG2.below; obtain ⟨u1, u11, u12, u13, u14, u15⟩ : w2.cell? ⟨w.heap.size, 1, none⟩ = some (.string (bs name)) ∧ w2.cell? ⟨w.heap.size, 11, none⟩ = some (.int .i64 k2) ∧ w2.cell? ⟨w.heap.size, 12, none⟩ = some (.int .u32 (n2 : Nat)) ∧ w2.cell? ⟨w.heap.size, 13, none⟩ = some (.int .i64 o2) ∧ w2.cell? ⟨w.heap.size, 14, none⟩ = some (.string (bs m2)) ∧ w2.cell? ⟨w.heap.size, 15, none⟩ = some (.slice a2 l2.length c2) := ⟨(R2.cell 1).trans q1, (R2.cell 11).trans q11, (R2.cell 12).trans q12, (R2.cell 13).trans q13, (R2.cell 14).trans q14, (R2.cell 15).trans q15⟩) | (refine step_call rfl 90 _ _ rfl #[exV k2 n2 o2 m2 a2 l2.length c2] (by simp [go_sem, Act.eval]) ?_; refine (HN.out _ R2).mono ?_; rintro e w3 hG3; obtain rfl := hG3.bad rfl; refine (fun (_ : wpAny Tryz.prog Region.Mode.any #[] (fun _ _ _ => True) 0 #[] ⟨#[], []⟩ w1) => ⟨rfl, .ofBad HF.out (bl_then R2.bl hG3.below)⟩) ?_))
  all_goals trivial
end Go.Proofs.YtbpdhegfdmppgaaGreatDoor.Sh

/- CONTRACT of stmtNode at new. -/
namespace Go.Proofs.YtbpdhegfdmppgaaGreatDoor.Sh
open Go.ChangeShapes Go.WideShapes Go.ChangeAt Go.RowKit

set_option maxRecDepth 100000 in
set_option maxHeartbeats 2000000 in
theorem stmt_new_yes (cs : Array Value) (name : List UInt8) (sec : Bool) (len fr to k1 : Int) (n1 : Nat) (o1 : Int) (m1 : List UInt8) (l1 : List Ex) (k2 : Int) (n2 : Nat) (o2 : Int) (m2 : List UInt8) (l2 : List Ex) (body els : List Sm) (a1 : Option Addr) (c1 : Nat) (a2 : Option Addr) (c2 : Nat) (a3 : Option Addr) (c3 : Nat) (a4 : Option Addr) (c4 : Nat) (w : World)
    (hcs : cs = smA 2 name sec len fr to k1 n1 o1 m1 a1 l1.length c1 k2 n2 o2 m2 a2 l2.length c2 a3 body.length c3 a4 els.length c4) (hn : isName name = true) (il3 : Bool) (wd3 : List UInt8) (ks3 : List Nd) (p3 : Int) (hs3 : shNum len 1 16 = some (.mk il3 wd3 ks3 p3)) :
    Calls Tryz.prog 89 #[.agg cs] w (Shows NdV w (shS (.mk 2 name sec len fr to (.mk k1 n1 o1 m1 l1) (.mk k2 n2 o2 m2 l2) body els))) := by
  have hnm := nameNode_any name
  rw [shName, if_pos hn] at hnm
  have hnu := number_any len 1 16 (by omega) (by omega)
  rw [hs3] at hnu
  have hla := labelNode_any sec
  have q0 : cs[0]? = some (.int .i64 2) := by rw [hcs]; rfl
  have q1 : cs[1]? = some (.string (bs name)) := by rw [hcs]; rfl
  have q2 : cs[2]? = some (.bool sec) := by rw [hcs]; rfl
  have q3 : cs[3]? = some (.int .i64 len) := by rw [hcs]; rfl
  have HCS : Hid (cs = smA 2 name sec len fr to k1 n1 o1 m1 a1 l1.length c1 k2 n2 o2 m2 a2 l2.length c2 a3 body.length c3 a4 els.length c4) := hcs
  have hia : (Tryz.prog.info? 110).map (·.size) = some cs.size := by rw [hcs]; exact info_stmt
  have hzs : zS.size = cs.size := by rw [hcs]; rfl
  have hone : cs.all (·.oneCell') = true := by rw [hcs]; simp [smA, Value.oneCell']
  clear hcs 
  obtain ⟨w1, hw1⟩ : ∃ w1, w1 = st0 w cs := ⟨_, rfl⟩
  have R0 : St w cs w1 := by rw [hw1]; exact St.start w cs
  have HW1 : Hid (w1 = ((((w.alloc (.cells cs 110)).alloc nd0).alloc nd0).alloc (.cells zS 110)).setRow (w.heap.size + 3) cs) := hw1
  clear hw1
  have hbx : (((w.alloc (.cells cs 110)).alloc nd0).alloc nd0).heap[w.heap.size]? = some (.cells cs 110 (0, 0)) := by
    rw [heap_alloc_old _ _ (by simp; omega), heap_alloc_old _ _ (by simp)]; exact heap_alloc_new w _
  have hmo : ((((w.alloc (.cells cs 110)).alloc nd0).alloc nd0).alloc (.cells zS 110)).heap[w.heap.size + 3]? = some (.cells zS 110 (0, 0)) := by
    have := heap_alloc_new (((w.alloc (.cells cs 110)).alloc nd0).alloc nd0) (.cells zS 110)
    simpa using this
  have cb := R0.cell
  have sz := R0.lt
  have R1 : St w cs w1.drew := R0.on (drew_bl w1)
  go_enter Tryz.func89, Tryz.ntmps89
  go_wp2_with (first | (refine wpList_load_row rfl 110 (.tmp 1) rfl w.heap.size rfl 110 cs (0, 0) _ hbx Tryz.underlying110 rfl hia ?_) | (refine wpList_store_row rfl 110 (.tmp 4) _ rfl (w.heap.size + 3) cs rfl rfl 110 zS hmo hia hzs hone ?_; rw [← HW1.out]; clear hbx hmo))
  have s1 : w1.cell? ⟨w.heap.size, 1, none⟩ = some (.string (bs name)) ∧ w1.cell? ⟨w.heap.size, 2, none⟩ = some (.bool sec) ∧ w1.cell? ⟨w.heap.size, 3, none⟩ = some (.int .i64 len) := ⟨(R0.cell 1).trans q1, (R0.cell 2).trans q2, (R0.cell 3).trans q3⟩
  clear cb
  go_region_held3 (fun w' => w'.cell? ⟨w.heap.size, 1, none⟩ = some (.string (bs name)) ∧ w'.cell? ⟨w.heap.size, 2, none⟩ = some (.bool sec) ∧ w'.cell? ⟨w.heap.size, 3, none⟩ = some (.int .i64 len))
    (first | with_reducible exact ⟨(R9.wcell _ _ _ _ 1).trans q1, (R9.wcell _ _ _ _ 2).trans q2, (R9.wcell _ _ _ _ 3).trans q3⟩ | with_reducible exact ⟨(R9.cell 1).trans q1, (R9.cell 2).trans q2, (R9.cell 3).trans q3⟩ | with_reducible exact ⟨((R4.alloc _).cell 1).trans q1, ((R4.alloc _).cell 2).trans q2, ((R4.alloc _).cell 3).trans q3⟩ | with_reducible exact ⟨(R4.cell 1).trans q1, (R4.cell 2).trans q2, (R4.cell 3).trans q3⟩ | with_reducible exact ⟨(R3.cell 1).trans q1, (R3.cell 2).trans q2, (R3.cell 3).trans q3⟩ | with_reducible exact ⟨(R2.cell 1).trans q1, (R2.cell 2).trans q2, (R2.cell 3).trans q3⟩ | with_reducible exact ⟨(R1.cell 1).trans q1, (R1.cell 2).trans q2, (R1.cell 3).trans q3⟩ | go_keep)
    (first | (go_at_call 77; refine (hnm _).mono ?_; rintro e w2 hG2; obtain ⟨v2, rfl, a21, k21, rfl, hc21, hr21⟩ := hG2.ok _ rfl; have R2 := R1.on hG2.below; have sz2 := R2.lt) | (go_at_call 87; refine (hla _).mono ?_; rintro e w3 ⟨rfl, hb3⟩; have R3 := R2.on hb3; have sz3 := R3.lt) | (go_at_call 108; refine (hnu _).mono ?_; rintro e w4 hG4; obtain ⟨v4, rfl, a41, k41, rfl, hc41, hr41⟩ := hG4.ok _ rfl; have R4 := R3.on hG4.below; have sz4 := R4.lt; have hro := three_row (il1 := false) (wd1 := name) (p1 := 0) (il2 := false) (wd2 := lab sec) (ks2 := []) (p2 := 0) (a2 := none) (c2 := 0) (il3 := il3) (wd3 := wd3) (p3 := p3) (S := fun b => w.heap.size + 4 ≤ b) hc21 (kNd.row_mono (by decide) (row_on (row_on hr21 hb3) hG4.below) (fun i hi _ => ⟨by have : w1.heap.size ≤ i := hi; omega, rfl⟩)) (Nat.le_refl _) trivial hc41 (kNd.row_mono (by decide) hr41 (fun i hi _ => ⟨by omega, rfl⟩)); have hfo := form_any [110, 101, 119] (some ⟨w4.heap.size, 0, none⟩) [.mk false name [] 0, .mk false (lab sec) [] 0, .mk il3 wd3 ks3 p3] 3 _ hro (by simp)) | (go_at_call 76; refine hfo.mono ?_; rintro e w9 ⟨⟨v9, rfl, a9, k9, rfl, hc9, hr9⟩, hb9⟩; have R9 := (R4.alloc _).on hb9; obtain ⟨d0, d1, d2, d3, z0, z1, z2, z3⟩ := R9.ndf))
  have sz5 := R9.lt
  generalize hw6 : ((((w9.setCell ⟨w.heap.size + 1 + 1, 0, none⟩ (.bool true)).setCell ⟨w.heap.size + 1 + 1, 1, none⟩ (.string (bs []))).setCell ⟨w.heap.size + 1 + 1, 2, none⟩ (.slice a9 4 k9)).setCell ⟨w.heap.size + 1 + 1, 3, none⟩ (.int .i64 0)) = w6
  simp only [Nat.add_assoc, Nat.reduceAdd] at hw6
  have R6 : Sn w cs (fm [110, 101, 119] [.mk false name [] 0, .mk false (lab sec) [] 0, .mk il3 wd3 ks3 p3]) w6 := Sn.of R9 (n := 4) rfl hc9 (kNd.row_mono (by decide) hr9 fun i hi _ => ⟨by rcases hi with (hi | hi) | hi; exact hi; omega; (simp at hi; omega), rfl⟩) hw6
  have HR6 : Hid _ := R6
  have hmo6 : w6.heap[w.heap.size + 1 + 1 + 1]? = some (.cells cs 110 (0, 0)) := R6.more
  have cm : ∀ i, w6.cell? ⟨w.heap.size + 1 + 1 + 1, i, none⟩ = cs[i]? := fun i => by simp [World.cell?, hmo6]
  have fz : ∀ i, w6.frozen? ⟨w.heap.size + 1 + 1 + 1, i, none⟩ = false := fun i => by simp [World.frozen?, hmo6]
  clear hw6 R6 hfo hr9 hb9 R1 R2 R3 R4 R9 R0 hG2 hG4 hb3 hro hr21 hr41 s1 d0 d1 d2 d3 z0 z1 z2 z3 hnm hnu hla
  have HM6 : Hid _ := hmo6
  clear hmo6
  have hiaM : ∀ (M : Array Value), M.size = cs.size → (Tryz.prog.info? 110).map (·.size) = some M.size := fun M h => by rw [h]; exact hia
  clear hia hzs hone HW1
  have HIB : Hid (∀ W : World, Calls Tryz.prog 110 #[.agg (((cs.setIfInBounds 1 (.string ⟨#[]⟩)).setIfInBounds 2 (.bool false)).setIfInBounds 3 (.int .i64 0))] W fun e w' => e = .returned (.bool (bareB [] false 0 fr to (.mk k1 n1 o1 m1 l1) (.mk k2 n2 o2 m2 l2) body els)) ∧ Below W.heap.size W w') := fun W => isBare_any _ 2 [] false 0 fr to k1 n1 o1 m1 l1 k2 n2 o2 m2 l2 body els a1 c1 a2 c2 a3 c3 a4 c4 W (by rw [HCS.out]; simp only [smA, List.setIfInBounds_toArray, List.set_cons_zero, List.set_cons_succ]; rfl)
  have hR : ∀ W : World, Hid ((((w6.setCell ⟨w.heap.size + 1 + 1 + 1, 1, none⟩ (.string ⟨#[]⟩)).setCell ⟨w.heap.size + 1 + 1 + 1, 2, none⟩ (.bool false)).setCell ⟨w.heap.size + 1 + 1 + 1, 3, none⟩ (.int .i64 0)) = W) → Sm5 w (fm [110, 101, 119] [.mk false name [] 0, .mk false (lab sec) [] 0, .mk il3 wd3 ks3 p3]) W := fun W hW => by
    have e := hW.out
    subst e
    exact Sm5.of HR6.out (fun i hi => by rw [setCell_other hi, setCell_other hi, setCell_other hi]) (bl_set (bl_set (bl_set HR6.out.bl _ _ _ (by omega)) _ _ _ (by omega)) _ _ _ (by omega))
  go_wp2_with (first | (refine wpList_load_row rfl 110 (.tmp 4) rfl (w.heap.size + 1 + 1 + 1) rfl 110 (((cs.setIfInBounds 1 (.string ⟨#[]⟩)).setIfInBounds 2 (.bool false)).setIfInBounds 3 (.int .i64 0)) (0, 0) _ ?_ Tryz.underlying110 rfl ?_ ?_; (exact (set_over (set_over (set_over HM6.out)))); (exact hiaM _ (by simp)); refine Hid.out ?_))
  generalize hw7 : (((w6.setCell ⟨w.heap.size + 1 + 1 + 1, 1, none⟩ (.string ⟨#[]⟩)).setCell ⟨w.heap.size + 1 + 1 + 1, 2, none⟩ (.bool false)).setCell ⟨w.heap.size + 1 + 1 + 1, 3, none⟩ (.int .i64 0)) = w7
  have HR7 := hR w7 hw7
  clear hw7 hR cm fz HM6 hiaM HR6
  refine Lib.hid ?_
  cases hbr : bareB [] false 0 fr to (.mk k1 n1 o1 m1 l1) (.mk k2 n2 o2 m2 l2) body els with
  | false =>
    rw [hbr] at HIB
    have HF : Hid (shS (.mk 2 name sec len fr to (.mk k1 n1 o1 m1 l1) (.mk k2 n2 o2 m2 l2) body els) = none) := by
      show _ = _
      rw [shS, if_neg (by omega), if_neg (by omega), if_pos rfl, shName, if_pos hn, hs3]
      simp only [Option.bind_some]
      rw [if_neg fun h => by rw [bare_new h] at hbr; cases hbr]
    clear hbr
    go_wp2_with (first | (go_at_call 110; refine (HIB.out _).mono ?_; rintro e w8 ⟨rfl, hb8⟩) | (go_at_call 75; refine (must_no _).mono ?_; rintro e w9 ⟨rfl, rfl⟩))
    exact ⟨rfl, .ofBad HF.out (bl_then HR7.bl hb8)⟩
  | true =>
    rw [hbr] at HIB
    have HF : Hid (shS (.mk 2 name sec len fr to (.mk k1 n1 o1 m1 l1) (.mk k2 n2 o2 m2 l2) body els) = some (fm [110, 101, 119] [.mk false name [] 0, .mk false (lab sec) [] 0, .mk il3 wd3 ks3 p3])) := by
      show _ = _
      rw [shS, if_neg (by omega), if_neg (by omega), if_pos rfl, shName, if_pos hn, hs3]
      simp only [Option.bind_some]
      rw [if_pos (new_bare hbr)]; rfl
    clear hbr
    go_wp2_with (first | (go_at_call 110; refine (HIB.out _).mono ?_; rintro e w8 ⟨rfl, hb8⟩; have R8 := HR7.on hb8; refine Hid.out ?_))
    refine Lib.hid ?_
    obtain ⟨il, wd, ks, p, na, nc, hnd, hno, hnc, hnr⟩ := R8.node
    rw [hnd] at HF
    have hres8 := R8.res
    have HB8 : Hid (Below w.heap.size w w8) := R8.bl
    have HNR : Hid _ := hnr
    have nlt : w.heap.size + 1 + 1 < w8.heap.size := lt_of_some hno
    obtain ⟨e0, e1, e2, e3, f0, f1, f2, f3⟩ := nd_free (b := w.heap.size + 1 + 1) hno
    obtain ⟨d0, d1, d2, d3, g0, g1, g2, g3⟩ := nd_free hres8
    clear hb8 HR7 R8 hno hnd hnr HIB
    go_wp2_with (first | (go_at_call 75; refine (must_yes _).mono ?_; rintro e w9 ⟨rfl, hq⟩; have hq' := hq.symm; subst hq'))
    exact bodyPost_ret_by (results_row Tryz.results89 rfl (load_nd (set4c hres8) rfl)) rfl (.ofOk HF.out (bl_set4 HB8.out _ _ _ _ _ (by omega)) ⟨na, nc, rfl, hnc, kNd.row_mono (by decide) HNR.out fun i hi _ => ⟨by omega, set4o (by omega)⟩⟩)
set_option maxRecDepth 100000 in
set_option maxHeartbeats 2000000 in
theorem stmt_new_name (cs : Array Value) (name : List UInt8) (sec : Bool) (len fr to k1 : Int) (n1 : Nat) (o1 : Int) (m1 : List UInt8) (l1 : List Ex) (k2 : Int) (n2 : Nat) (o2 : Int) (m2 : List UInt8) (l2 : List Ex) (body els : List Sm) (a1 : Option Addr) (c1 : Nat) (a2 : Option Addr) (c2 : Nat) (a3 : Option Addr) (c3 : Nat) (a4 : Option Addr) (c4 : Nat) (w : World)
    (hcs : cs = smA 2 name sec len fr to k1 n1 o1 m1 a1 l1.length c1 k2 n2 o2 m2 a2 l2.length c2 a3 body.length c3 a4 els.length c4) (hn : isName name = false) :
    Calls Tryz.prog 89 #[.agg cs] w (Shows NdV w (shS (.mk 2 name sec len fr to (.mk k1 n1 o1 m1 l1) (.mk k2 n2 o2 m2 l2) body els))) := by
  have HF : Hid (shS (.mk 2 name sec len fr to (.mk k1 n1 o1 m1 l1) (.mk k2 n2 o2 m2 l2) body els) = none) := by
    show _ = _
    rw [shS, if_neg (by omega), if_neg (by omega), if_pos rfl, shName, hn]; rfl
  have hnm := nameNode_any name
  have hns : shName name = none := by rw [shName, hn]; rfl
  rw [hns] at hnm
  have q0 : cs[0]? = some (.int .i64 2) := by rw [hcs]; rfl
  have q1 : cs[1]? = some (.string (bs name)) := by rw [hcs]; rfl
  have q2 : cs[2]? = some (.bool sec) := by rw [hcs]; rfl
  have q3 : cs[3]? = some (.int .i64 len) := by rw [hcs]; rfl
  have HCS : Hid (cs = smA 2 name sec len fr to k1 n1 o1 m1 a1 l1.length c1 k2 n2 o2 m2 a2 l2.length c2 a3 body.length c3 a4 els.length c4) := hcs
  have hia : (Tryz.prog.info? 110).map (·.size) = some cs.size := by rw [hcs]; exact info_stmt
  have hzs : zS.size = cs.size := by rw [hcs]; rfl
  have hone : cs.all (·.oneCell') = true := by rw [hcs]; simp [smA, Value.oneCell']
  clear hcs hn hns
  obtain ⟨w1, hw1⟩ : ∃ w1, w1 = st0 w cs := ⟨_, rfl⟩
  have R0 : St w cs w1 := by rw [hw1]; exact St.start w cs
  have HW1 : Hid (w1 = ((((w.alloc (.cells cs 110)).alloc nd0).alloc nd0).alloc (.cells zS 110)).setRow (w.heap.size + 3) cs) := hw1
  clear hw1
  have hbx : (((w.alloc (.cells cs 110)).alloc nd0).alloc nd0).heap[w.heap.size]? = some (.cells cs 110 (0, 0)) := by
    rw [heap_alloc_old _ _ (by simp; omega), heap_alloc_old _ _ (by simp)]; exact heap_alloc_new w _
  have hmo : ((((w.alloc (.cells cs 110)).alloc nd0).alloc nd0).alloc (.cells zS 110)).heap[w.heap.size + 3]? = some (.cells zS 110 (0, 0)) := by
    have := heap_alloc_new (((w.alloc (.cells cs 110)).alloc nd0).alloc nd0) (.cells zS 110)
    simpa using this
  have cb := R0.cell
  have sz := R0.lt
  have R1 : St w cs w1.drew := R0.on (drew_bl w1)
  go_enter Tryz.func89, Tryz.ntmps89
  go_wp2_with (first | (refine wpList_load_row rfl 110 (.tmp 1) rfl w.heap.size rfl 110 cs (0, 0) _ hbx Tryz.underlying110 rfl hia ?_) | (refine wpList_store_row rfl 110 (.tmp 4) _ rfl (w.heap.size + 3) cs rfl rfl 110 zS hmo hia hzs hone ?_; rw [← HW1.out]; clear hbx hmo))
  obtain ⟨t1, t2, t3⟩ : w1.cell? ⟨w.heap.size, 1, none⟩ = some (.string (bs name)) ∧ w1.cell? ⟨w.heap.size, 2, none⟩ = some (.bool sec) ∧ w1.cell? ⟨w.heap.size, 3, none⟩ = some (.int .i64 len) := ⟨(R0.cell 1).trans q1, (R0.cell 2).trans q2, (R0.cell 3).trans q3⟩
  clear cb
  go_region_law (first | (refine step_call rfl 77 _ _ rfl #[.string (bs name)] (by simp [go_sem, Act.eval]) ?_; refine (hnm _).mono ?_; rintro e w2 hG2; obtain rfl := hG2.bad rfl; refine (fun (_ : wpAny Tryz.prog Region.Mode.any #[] (fun _ _ _ => True) 0 #[] ⟨#[], []⟩ w1) => ⟨rfl, .ofBad HF.out (bl_then R1.bl hG2.below)⟩) ?_))
  all_goals trivial
set_option maxRecDepth 100000 in
set_option maxHeartbeats 2000000 in
theorem stmt_new_len (cs : Array Value) (name : List UInt8) (sec : Bool) (len fr to k1 : Int) (n1 : Nat) (o1 : Int) (m1 : List UInt8) (l1 : List Ex) (k2 : Int) (n2 : Nat) (o2 : Int) (m2 : List UInt8) (l2 : List Ex) (body els : List Sm) (a1 : Option Addr) (c1 : Nat) (a2 : Option Addr) (c2 : Nat) (a3 : Option Addr) (c3 : Nat) (a4 : Option Addr) (c4 : Nat) (w : World)
    (hcs : cs = smA 2 name sec len fr to k1 n1 o1 m1 a1 l1.length c1 k2 n2 o2 m2 a2 l2.length c2 a3 body.length c3 a4 els.length c4) (hn : isName name = true) (hs3 : shNum len 1 16 = none) :
    Calls Tryz.prog 89 #[.agg cs] w (Shows NdV w (shS (.mk 2 name sec len fr to (.mk k1 n1 o1 m1 l1) (.mk k2 n2 o2 m2 l2) body els))) := by
  have HF : Hid (shS (.mk 2 name sec len fr to (.mk k1 n1 o1 m1 l1) (.mk k2 n2 o2 m2 l2) body els) = none) := by
    show _ = _
    rw [shS, if_neg (by omega), if_neg (by omega), if_pos rfl, shName, if_pos hn, hs3]; rfl
  have hnm := nameNode_any name
  rw [shName, if_pos hn] at hnm
  have hnu := number_any len 1 16 (by omega) (by omega)
  rw [hs3] at hnu
  have hla := labelNode_any sec
  have q0 : cs[0]? = some (.int .i64 2) := by rw [hcs]; rfl
  have q1 : cs[1]? = some (.string (bs name)) := by rw [hcs]; rfl
  have q2 : cs[2]? = some (.bool sec) := by rw [hcs]; rfl
  have q3 : cs[3]? = some (.int .i64 len) := by rw [hcs]; rfl
  have HCS : Hid (cs = smA 2 name sec len fr to k1 n1 o1 m1 a1 l1.length c1 k2 n2 o2 m2 a2 l2.length c2 a3 body.length c3 a4 els.length c4) := hcs
  have hia : (Tryz.prog.info? 110).map (·.size) = some cs.size := by rw [hcs]; exact info_stmt
  have hzs : zS.size = cs.size := by rw [hcs]; rfl
  have hone : cs.all (·.oneCell') = true := by rw [hcs]; simp [smA, Value.oneCell']
  clear hcs hn hs3
  obtain ⟨w1, hw1⟩ : ∃ w1, w1 = st0 w cs := ⟨_, rfl⟩
  have R0 : St w cs w1 := by rw [hw1]; exact St.start w cs
  have HW1 : Hid (w1 = ((((w.alloc (.cells cs 110)).alloc nd0).alloc nd0).alloc (.cells zS 110)).setRow (w.heap.size + 3) cs) := hw1
  clear hw1
  have hbx : (((w.alloc (.cells cs 110)).alloc nd0).alloc nd0).heap[w.heap.size]? = some (.cells cs 110 (0, 0)) := by
    rw [heap_alloc_old _ _ (by simp; omega), heap_alloc_old _ _ (by simp)]; exact heap_alloc_new w _
  have hmo : ((((w.alloc (.cells cs 110)).alloc nd0).alloc nd0).alloc (.cells zS 110)).heap[w.heap.size + 3]? = some (.cells zS 110 (0, 0)) := by
    have := heap_alloc_new (((w.alloc (.cells cs 110)).alloc nd0).alloc nd0) (.cells zS 110)
    simpa using this
  have cb := R0.cell
  have sz := R0.lt
  have R1 : St w cs w1.drew := R0.on (drew_bl w1)
  go_enter Tryz.func89, Tryz.ntmps89
  go_wp2_with (first | (refine wpList_load_row rfl 110 (.tmp 1) rfl w.heap.size rfl 110 cs (0, 0) _ hbx Tryz.underlying110 rfl hia ?_) | (refine wpList_store_row rfl 110 (.tmp 4) _ rfl (w.heap.size + 3) cs rfl rfl 110 zS hmo hia hzs hone ?_; rw [← HW1.out]; clear hbx hmo))
  obtain ⟨t1, t2, t3⟩ : w1.cell? ⟨w.heap.size, 1, none⟩ = some (.string (bs name)) ∧ w1.cell? ⟨w.heap.size, 2, none⟩ = some (.bool sec) ∧ w1.cell? ⟨w.heap.size, 3, none⟩ = some (.int .i64 len) := ⟨(R0.cell 1).trans q1, (R0.cell 2).trans q2, (R0.cell 3).trans q3⟩
  clear cb
  go_region_law (first | (refine step_call rfl 77 _ _ rfl #[.string (bs name)] (by simp [go_sem, Act.eval]) ?_; refine (hnm _).mono ?_; rintro e w2 hG2; obtain ⟨v2, rfl, a21, k21, rfl, hc21, hr21⟩ := hG2.ok _ rfl; have R2 := R1.on hG2.below; obtain ⟨u1, u2, u3⟩ : w2.cell? ⟨w.heap.size, 1, none⟩ = some (.string (bs name)) ∧ w2.cell? ⟨w.heap.size, 2, none⟩ = some (.bool sec) ∧ w2.cell? ⟨w.heap.size, 3, none⟩ = some (.int .i64 len) := ⟨(R2.cell 1).trans q1, (R2.cell 2).trans q2, (R2.cell 3).trans q3⟩) | (refine step_call rfl 87 _ _ rfl #[.bool sec] (by simp [go_sem, Act.eval]) ?_; refine (hla _).mono ?_; rintro e w3 ⟨rfl, hb3⟩; have R3 := R2.on hb3; obtain ⟨y1, y2, y3⟩ : w3.cell? ⟨w.heap.size, 1, none⟩ = some (.string (bs name)) ∧ w3.cell? ⟨w.heap.size, 2, none⟩ = some (.bool sec) ∧ w3.cell? ⟨w.heap.size, 3, none⟩ = some (.int .i64 len) := ⟨(R3.cell 1).trans q1, (R3.cell 2).trans q2, (R3.cell 3).trans q3⟩) | (refine step_call rfl 108 _ _ rfl #[.int .i64 len, .int .i64 1, .int .i64 16] (by simp [go_sem, Act.eval]) ?_; refine (hnu _).mono ?_; rintro e w4 hG4; obtain rfl := hG4.bad rfl; refine (fun (_ : wpAny Tryz.prog Region.Mode.any #[] (fun _ _ _ => True) 0 #[] ⟨#[], []⟩ w1) => ⟨rfl, .ofBad HF.out (bl_then R3.bl hG4.below)⟩) ?_))
  all_goals trivial
end Go.Proofs.YtbpdhegfdmppgaaGreatDoor.Sh

/- CONTRACT of stmtNode at set. -/
namespace Go.Proofs.YtbpdhegfdmppgaaGreatDoor.Sh
open Go.ChangeShapes Go.WideShapes Go.ChangeAt Go.RowKit

set_option maxRecDepth 100000 in
set_option maxHeartbeats 2000000 in
theorem stmt_set_yes {B : Nat} {S : Nat → Prop} (cs : Array Value) (name : List UInt8) (sec : Bool) (len fr to k1 : Int) (n1 : Nat) (o1 : Int) (m1 : List UInt8) (l1 : List Ex) (k2 : Int) (n2 : Nat) (o2 : Int) (m2 : List UInt8) (l2 : List Ex) (body els : List Sm) (a1 : Option Addr) (c1 : Nat) (a2 : Option Addr) (c2 : Nat) (a3 : Option Addr) (c3 : Nat) (a4 : Option Addr) (c4 : Nat) (w : World)
    (hcs : cs = smA 3 name sec len fr to k1 n1 o1 m1 a1 l1.length c1 k2 n2 o2 m2 a2 l2.length c2 a3 body.length c3 a4 els.length c4) (hg : Glob B w) (hr2 : exR w S a2 l2) (hc2 : l2.length ≤ c2) (hm2 : exW (.mk k2 n2 o2 m2 l2) ≤ 1000000) (hok2 : exOk (.mk k2 n2 o2 m2 l2)) (hn : isName name = true) (il2 : Bool) (wd2 : List UInt8) (ks2 : List Nd) (p2 : Int) (hs2 : shE (.mk k2 n2 o2 m2 l2) = some (.mk il2 wd2 ks2 p2)) :
    Calls Tryz.prog 89 #[.agg cs] w (Shows NdV w (shS (.mk 3 name sec len fr to (.mk k1 n1 o1 m1 l1) (.mk k2 n2 o2 m2 l2) body els))) := by
  have HN : Hid (∀ w1, St w cs w1 → Calls Tryz.prog 90 #[exV k2 n2 o2 m2 a2 l2.length c2] w1 (Shows NdV w1 (some (.mk il2 wd2 ks2 p2)))) := fun w1 h1 => by
    rw [← hs2]
    exact expr_any _ w1 _ hm2 hok2 (hg.below h1.bl) ⟨a2, c2, rfl, hc2, exR_mono (T := S) (fun i hi hlt => ⟨hi, h1.bl.block i hlt⟩) hr2⟩
  have hnm := nameNode_any name
  rw [shName, if_pos hn] at hnm
  have q0 : cs[0]? = some (.int .i64 3) := by rw [hcs]; rfl
  have q1 : cs[1]? = some (.string (bs name)) := by rw [hcs]; rfl
  have q11 : cs[11]? = some (.int .i64 k2) := by rw [hcs]; rfl
  have q12 : cs[12]? = some (.int .u32 (n2 : Nat)) := by rw [hcs]; rfl
  have q13 : cs[13]? = some (.int .i64 o2) := by rw [hcs]; rfl
  have q14 : cs[14]? = some (.string (bs m2)) := by rw [hcs]; rfl
  have q15 : cs[15]? = some (.slice a2 l2.length c2) := by rw [hcs]; rfl
  have HCS : Hid (cs = smA 3 name sec len fr to k1 n1 o1 m1 a1 l1.length c1 k2 n2 o2 m2 a2 l2.length c2 a3 body.length c3 a4 els.length c4) := hcs
  have hia : (Tryz.prog.info? 110).map (·.size) = some cs.size := by rw [hcs]; exact info_stmt
  have hzs : zS.size = cs.size := by rw [hcs]; rfl
  have hone : cs.all (·.oneCell') = true := by rw [hcs]; simp [smA, Value.oneCell']
  clear hcs hr2 hm2 hok2 hg hc2
  obtain ⟨w1, hw1⟩ : ∃ w1, w1 = st0 w cs := ⟨_, rfl⟩
  have R0 : St w cs w1 := by rw [hw1]; exact St.start w cs
  have HW1 : Hid (w1 = ((((w.alloc (.cells cs 110)).alloc nd0).alloc nd0).alloc (.cells zS 110)).setRow (w.heap.size + 3) cs) := hw1
  clear hw1
  have hbx : (((w.alloc (.cells cs 110)).alloc nd0).alloc nd0).heap[w.heap.size]? = some (.cells cs 110 (0, 0)) := by
    rw [heap_alloc_old _ _ (by simp; omega), heap_alloc_old _ _ (by simp)]; exact heap_alloc_new w _
  have hmo : ((((w.alloc (.cells cs 110)).alloc nd0).alloc nd0).alloc (.cells zS 110)).heap[w.heap.size + 3]? = some (.cells zS 110 (0, 0)) := by
    have := heap_alloc_new (((w.alloc (.cells cs 110)).alloc nd0).alloc nd0) (.cells zS 110)
    simpa using this
  have cb := R0.cell
  have sz := R0.lt
  have R1 : St w cs w1.drew := R0.on (drew_bl w1)
  go_enter Tryz.func89, Tryz.ntmps89
  go_wp2_with (first | (refine wpList_load_row rfl 110 (.tmp 1) rfl w.heap.size rfl 110 cs (0, 0) _ hbx Tryz.underlying110 rfl hia ?_) | (refine wpList_store_row rfl 110 (.tmp 4) _ rfl (w.heap.size + 3) cs rfl rfl 110 zS hmo hia hzs hone ?_; rw [← HW1.out]; clear hbx hmo))
  have s1 : w1.cell? ⟨w.heap.size, 1, none⟩ = some (.string (bs name)) ∧ w1.cell? ⟨w.heap.size, 11, none⟩ = some (.int .i64 k2) ∧ w1.cell? ⟨w.heap.size, 12, none⟩ = some (.int .u32 (n2 : Nat)) ∧ w1.cell? ⟨w.heap.size, 13, none⟩ = some (.int .i64 o2) ∧ w1.cell? ⟨w.heap.size, 14, none⟩ = some (.string (bs m2)) ∧ w1.cell? ⟨w.heap.size, 15, none⟩ = some (.slice a2 l2.length c2) := ⟨(R0.cell 1).trans q1, (R0.cell 11).trans q11, (R0.cell 12).trans q12, (R0.cell 13).trans q13, (R0.cell 14).trans q14, (R0.cell 15).trans q15⟩
  clear cb
  go_region_held3 (fun w' => w'.cell? ⟨w.heap.size, 1, none⟩ = some (.string (bs name)) ∧ w'.cell? ⟨w.heap.size, 11, none⟩ = some (.int .i64 k2) ∧ w'.cell? ⟨w.heap.size, 12, none⟩ = some (.int .u32 (n2 : Nat)) ∧ w'.cell? ⟨w.heap.size, 13, none⟩ = some (.int .i64 o2) ∧ w'.cell? ⟨w.heap.size, 14, none⟩ = some (.string (bs m2)) ∧ w'.cell? ⟨w.heap.size, 15, none⟩ = some (.slice a2 l2.length c2))
    (first | with_reducible exact ⟨(R9.wcell _ _ _ _ 1).trans q1, (R9.wcell _ _ _ _ 11).trans q11, (R9.wcell _ _ _ _ 12).trans q12, (R9.wcell _ _ _ _ 13).trans q13, (R9.wcell _ _ _ _ 14).trans q14, (R9.wcell _ _ _ _ 15).trans q15⟩ | with_reducible exact ⟨(R9.cell 1).trans q1, (R9.cell 11).trans q11, (R9.cell 12).trans q12, (R9.cell 13).trans q13, (R9.cell 14).trans q14, (R9.cell 15).trans q15⟩ | with_reducible exact ⟨((R3.alloc _).cell 1).trans q1, ((R3.alloc _).cell 11).trans q11, ((R3.alloc _).cell 12).trans q12, ((R3.alloc _).cell 13).trans q13, ((R3.alloc _).cell 14).trans q14, ((R3.alloc _).cell 15).trans q15⟩ | with_reducible exact ⟨(R3.cell 1).trans q1, (R3.cell 11).trans q11, (R3.cell 12).trans q12, (R3.cell 13).trans q13, (R3.cell 14).trans q14, (R3.cell 15).trans q15⟩ | with_reducible exact ⟨(R2.cell 1).trans q1, (R2.cell 11).trans q11, (R2.cell 12).trans q12, (R2.cell 13).trans q13, (R2.cell 14).trans q14, (R2.cell 15).trans q15⟩ | with_reducible exact ⟨(R1.cell 1).trans q1, (R1.cell 11).trans q11, (R1.cell 12).trans q12, (R1.cell 13).trans q13, (R1.cell 14).trans q14, (R1.cell 15).trans q15⟩ | go_keep)
    (first | (go_at_call 77; refine (hnm _).mono ?_; rintro e w2 hG2; obtain ⟨v2, rfl, a21, k21, rfl, hc21, hr21⟩ := hG2.ok _ rfl; have R2 := R1.on hG2.below; have sz2 := R2.lt) | (go_at_call 90; refine (HN.out _ R2).mono ?_; rintro e w3 hG3; obtain ⟨v3, rfl, a31, k31, rfl, hc31, hr31⟩ := hG3.ok _ rfl; have R3 := R2.on hG3.below; have sz3 := R3.lt; have hro := two_row (il1 := false) (wd1 := name) (p1 := 0) (il2 := il2) (wd2 := wd2) (p2 := p2) (S := fun b => w.heap.size + 4 ≤ b) hc21 (kNd.row_mono (by decide) (row_on hr21 hG3.below) (fun i hi _ => ⟨by have : w1.heap.size ≤ i := hi; omega, rfl⟩)) hc31 (kNd.row_mono (by decide) hr31 (fun i hi _ => ⟨by omega, rfl⟩)); have hfo := form_any [115, 101, 116] (some ⟨w3.heap.size, 0, none⟩) [.mk false name [] 0, .mk il2 wd2 ks2 p2] 2 _ hro (by simp)) | (go_at_call 76; refine hfo.mono ?_; rintro e w9 ⟨⟨v9, rfl, a9, k9, rfl, hc9, hr9⟩, hb9⟩; have R9 := (R3.alloc _).on hb9; obtain ⟨d0, d1, d2, d3, z0, z1, z2, z3⟩ := R9.ndf))
  have sz5 := R9.lt
  generalize hw6 : ((((w9.setCell ⟨w.heap.size + 1 + 1, 0, none⟩ (.bool true)).setCell ⟨w.heap.size + 1 + 1, 1, none⟩ (.string (bs []))).setCell ⟨w.heap.size + 1 + 1, 2, none⟩ (.slice a9 3 k9)).setCell ⟨w.heap.size + 1 + 1, 3, none⟩ (.int .i64 0)) = w6
  simp only [Nat.add_assoc, Nat.reduceAdd] at hw6
  have R6 : Sn w cs (fm [115, 101, 116] [.mk false name [] 0, .mk il2 wd2 ks2 p2]) w6 := Sn.of R9 (n := 3) rfl hc9 (kNd.row_mono (by decide) hr9 fun i hi _ => ⟨by rcases hi with (hi | hi) | hi; exact hi; omega; (simp at hi; omega), rfl⟩) hw6
  have HR6 : Hid _ := R6
  have hmo6 : w6.heap[w.heap.size + 1 + 1 + 1]? = some (.cells cs 110 (0, 0)) := R6.more
  have cm : ∀ i, w6.cell? ⟨w.heap.size + 1 + 1 + 1, i, none⟩ = cs[i]? := fun i => by simp [World.cell?, hmo6]
  have fz : ∀ i, w6.frozen? ⟨w.heap.size + 1 + 1 + 1, i, none⟩ = false := fun i => by simp [World.frozen?, hmo6]
  clear hw6 R6 hfo hr9 hb9 R1 R2 R3 R9 R0 hG2 hG3 hro hr21 hr31 s1 d0 d1 d2 d3 z0 z1 z2 z3 hnm
  have HM6 : Hid _ := hmo6
  clear hmo6
  have hiaM : ∀ (M : Array Value), M.size = cs.size → (Tryz.prog.info? 110).map (·.size) = some M.size := fun M h => by rw [h]; exact hia
  clear hia hzs hone HW1
  have HIB : Hid (∀ W : World, Calls Tryz.prog 110 #[.agg ((((((cs.setIfInBounds 1 (.string ⟨#[]⟩)).setIfInBounds 11 (.int .i64 0)).setIfInBounds 12 (.int .u32 0)).setIfInBounds 13 (.int .i64 0)).setIfInBounds 14 (.string ⟨#[]⟩)).setIfInBounds 15 (.slice none 0 0))] W fun e w' => e = .returned (.bool (bareB [] sec len fr to (.mk k1 n1 o1 m1 l1) .none body els)) ∧ Below W.heap.size W w') := fun W => isBare_any _ 3 [] sec len fr to k1 n1 o1 m1 l1 0 0 0 [] [] body els a1 c1 none 0 a3 c3 a4 c4 W (by rw [HCS.out]; simp only [smA, List.setIfInBounds_toArray, List.set_cons_zero, List.set_cons_succ]; rfl)
  have hR : ∀ W : World, Hid (((((((w6.setCell ⟨w.heap.size + 1 + 1 + 1, 1, none⟩ (.string ⟨#[]⟩)).setCell ⟨w.heap.size + 1 + 1 + 1, 11, none⟩ (.int .i64 0)).setCell ⟨w.heap.size + 1 + 1 + 1, 12, none⟩ (.int .u32 0)).setCell ⟨w.heap.size + 1 + 1 + 1, 13, none⟩ (.int .i64 0)).setCell ⟨w.heap.size + 1 + 1 + 1, 14, none⟩ (.string ⟨#[]⟩)).setCell ⟨w.heap.size + 1 + 1 + 1, 15, none⟩ (.slice none 0 0)) = W) → Sm5 w (fm [115, 101, 116] [.mk false name [] 0, .mk il2 wd2 ks2 p2]) W := fun W hW => by
    have e := hW.out
    subst e
    exact Sm5.of HR6.out (fun i hi => by rw [setCell_other hi, setCell_other hi, setCell_other hi, setCell_other hi, setCell_other hi, setCell_other hi]) (bl_set5 (bl_set HR6.out.bl _ _ _ (by omega)) _ _ _ _ _ _ _ _ _ _ _ (by omega))
  go_wp2_with (first | (refine wpList_load_row rfl 110 (.tmp 4) rfl (w.heap.size + 1 + 1 + 1) rfl 110 ((((((cs.setIfInBounds 1 (.string ⟨#[]⟩)).setIfInBounds 11 (.int .i64 0)).setIfInBounds 12 (.int .u32 0)).setIfInBounds 13 (.int .i64 0)).setIfInBounds 14 (.string ⟨#[]⟩)).setIfInBounds 15 (.slice none 0 0)) (0, 0) _ ?_ Tryz.underlying110 rfl ?_ ?_; (exact (set5 (set_over HM6.out))); (exact hiaM _ (by simp)); refine Hid.out ?_))
  generalize hw7 : ((((((w6.setCell ⟨w.heap.size + 1 + 1 + 1, 1, none⟩ (.string ⟨#[]⟩)).setCell ⟨w.heap.size + 1 + 1 + 1, 11, none⟩ (.int .i64 0)).setCell ⟨w.heap.size + 1 + 1 + 1, 12, none⟩ (.int .u32 0)).setCell ⟨w.heap.size + 1 + 1 + 1, 13, none⟩ (.int .i64 0)).setCell ⟨w.heap.size + 1 + 1 + 1, 14, none⟩ (.string ⟨#[]⟩)).setCell ⟨w.heap.size + 1 + 1 + 1, 15, none⟩ (.slice none 0 0)) = w7
  have HR7 := hR w7 hw7
  clear hw7 hR cm fz HM6 hiaM HR6
  refine Lib.hid ?_
  cases hbr : bareB [] sec len fr to (.mk k1 n1 o1 m1 l1) .none body els with
  | false =>
    rw [hbr] at HIB
    have HF : Hid (shS (.mk 3 name sec len fr to (.mk k1 n1 o1 m1 l1) (.mk k2 n2 o2 m2 l2) body els) = none) := by
      show _ = _
      rw [shS, if_neg (by omega), if_pos rfl, shName, if_pos hn, hs2]
      simp only [Option.bind_some]
      rw [if_neg fun h => by rw [bare_let h] at hbr; cases hbr]
    clear hbr
    go_wp2_with (first | (go_at_call 110; refine (HIB.out _).mono ?_; rintro e w8 ⟨rfl, hb8⟩) | (go_at_call 75; refine (must_no _).mono ?_; rintro e w9 ⟨rfl, rfl⟩))
    exact ⟨rfl, .ofBad HF.out (bl_then HR7.bl hb8)⟩
  | true =>
    rw [hbr] at HIB
    have HF : Hid (shS (.mk 3 name sec len fr to (.mk k1 n1 o1 m1 l1) (.mk k2 n2 o2 m2 l2) body els) = some (fm [115, 101, 116] [.mk false name [] 0, .mk il2 wd2 ks2 p2])) := by
      show _ = _
      rw [shS, if_neg (by omega), if_pos rfl, shName, if_pos hn, hs2]
      simp only [Option.bind_some]
      rw [if_pos (let_bare hbr)]; rfl
    clear hbr
    go_wp2_with (first | (go_at_call 110; refine (HIB.out _).mono ?_; rintro e w8 ⟨rfl, hb8⟩; have R8 := HR7.on hb8; refine Hid.out ?_))
    refine Lib.hid ?_
    obtain ⟨il, wd, ks, p, na, nc, hnd, hno, hnc, hnr⟩ := R8.node
    rw [hnd] at HF
    have hres8 := R8.res
    have HB8 : Hid (Below w.heap.size w w8) := R8.bl
    have HNR : Hid _ := hnr
    have nlt : w.heap.size + 1 + 1 < w8.heap.size := lt_of_some hno
    obtain ⟨e0, e1, e2, e3, f0, f1, f2, f3⟩ := nd_free (b := w.heap.size + 1 + 1) hno
    obtain ⟨d0, d1, d2, d3, g0, g1, g2, g3⟩ := nd_free hres8
    clear hb8 HR7 R8 hno hnd hnr HIB
    go_wp2_with (first | (go_at_call 75; refine (must_yes _).mono ?_; rintro e w9 ⟨rfl, hq⟩; have hq' := hq.symm; subst hq'))
    exact bodyPost_ret_by (results_row Tryz.results89 rfl (load_nd (set4c hres8) rfl)) rfl (.ofOk HF.out (bl_set4 HB8.out _ _ _ _ _ (by omega)) ⟨na, nc, rfl, hnc, kNd.row_mono (by decide) HNR.out fun i hi _ => ⟨by omega, set4o (by omega)⟩⟩)
set_option maxRecDepth 100000 in
set_option maxHeartbeats 2000000 in
theorem stmt_set_name (cs : Array Value) (name : List UInt8) (sec : Bool) (len fr to k1 : Int) (n1 : Nat) (o1 : Int) (m1 : List UInt8) (l1 : List Ex) (k2 : Int) (n2 : Nat) (o2 : Int) (m2 : List UInt8) (l2 : List Ex) (body els : List Sm) (a1 : Option Addr) (c1 : Nat) (a2 : Option Addr) (c2 : Nat) (a3 : Option Addr) (c3 : Nat) (a4 : Option Addr) (c4 : Nat) (w : World)
    (hcs : cs = smA 3 name sec len fr to k1 n1 o1 m1 a1 l1.length c1 k2 n2 o2 m2 a2 l2.length c2 a3 body.length c3 a4 els.length c4) (hn : isName name = false) :
    Calls Tryz.prog 89 #[.agg cs] w (Shows NdV w (shS (.mk 3 name sec len fr to (.mk k1 n1 o1 m1 l1) (.mk k2 n2 o2 m2 l2) body els))) := by
  have HF : Hid (shS (.mk 3 name sec len fr to (.mk k1 n1 o1 m1 l1) (.mk k2 n2 o2 m2 l2) body els) = none) := by
    show _ = _
    rw [shS, if_neg (by omega), if_pos rfl, shName, hn]; rfl
  have hnm := nameNode_any name
  have hns : shName name = none := by rw [shName, hn]; rfl
  rw [hns] at hnm
  have q0 : cs[0]? = some (.int .i64 3) := by rw [hcs]; rfl
  have q1 : cs[1]? = some (.string (bs name)) := by rw [hcs]; rfl
  have q11 : cs[11]? = some (.int .i64 k2) := by rw [hcs]; rfl
  have q12 : cs[12]? = some (.int .u32 (n2 : Nat)) := by rw [hcs]; rfl
  have q13 : cs[13]? = some (.int .i64 o2) := by rw [hcs]; rfl
  have q14 : cs[14]? = some (.string (bs m2)) := by rw [hcs]; rfl
  have q15 : cs[15]? = some (.slice a2 l2.length c2) := by rw [hcs]; rfl
  have HCS : Hid (cs = smA 3 name sec len fr to k1 n1 o1 m1 a1 l1.length c1 k2 n2 o2 m2 a2 l2.length c2 a3 body.length c3 a4 els.length c4) := hcs
  have hia : (Tryz.prog.info? 110).map (·.size) = some cs.size := by rw [hcs]; exact info_stmt
  have hzs : zS.size = cs.size := by rw [hcs]; rfl
  have hone : cs.all (·.oneCell') = true := by rw [hcs]; simp [smA, Value.oneCell']
  clear hcs hn hns
  obtain ⟨w1, hw1⟩ : ∃ w1, w1 = st0 w cs := ⟨_, rfl⟩
  have R0 : St w cs w1 := by rw [hw1]; exact St.start w cs
  have HW1 : Hid (w1 = ((((w.alloc (.cells cs 110)).alloc nd0).alloc nd0).alloc (.cells zS 110)).setRow (w.heap.size + 3) cs) := hw1
  clear hw1
  have hbx : (((w.alloc (.cells cs 110)).alloc nd0).alloc nd0).heap[w.heap.size]? = some (.cells cs 110 (0, 0)) := by
    rw [heap_alloc_old _ _ (by simp; omega), heap_alloc_old _ _ (by simp)]; exact heap_alloc_new w _
  have hmo : ((((w.alloc (.cells cs 110)).alloc nd0).alloc nd0).alloc (.cells zS 110)).heap[w.heap.size + 3]? = some (.cells zS 110 (0, 0)) := by
    have := heap_alloc_new (((w.alloc (.cells cs 110)).alloc nd0).alloc nd0) (.cells zS 110)
    simpa using this
  have cb := R0.cell
  have sz := R0.lt
  have R1 : St w cs w1.drew := R0.on (drew_bl w1)
  go_enter Tryz.func89, Tryz.ntmps89
  go_wp2_with (first | (refine wpList_load_row rfl 110 (.tmp 1) rfl w.heap.size rfl 110 cs (0, 0) _ hbx Tryz.underlying110 rfl hia ?_) | (refine wpList_store_row rfl 110 (.tmp 4) _ rfl (w.heap.size + 3) cs rfl rfl 110 zS hmo hia hzs hone ?_; rw [← HW1.out]; clear hbx hmo))
  obtain ⟨t1, t11, t12, t13, t14, t15⟩ : w1.cell? ⟨w.heap.size, 1, none⟩ = some (.string (bs name)) ∧ w1.cell? ⟨w.heap.size, 11, none⟩ = some (.int .i64 k2) ∧ w1.cell? ⟨w.heap.size, 12, none⟩ = some (.int .u32 (n2 : Nat)) ∧ w1.cell? ⟨w.heap.size, 13, none⟩ = some (.int .i64 o2) ∧ w1.cell? ⟨w.heap.size, 14, none⟩ = some (.string (bs m2)) ∧ w1.cell? ⟨w.heap.size, 15, none⟩ = some (.slice a2 l2.length c2) := ⟨(R0.cell 1).trans q1, (R0.cell 11).trans q11, (R0.cell 12).trans q12, (R0.cell 13).trans q13, (R0.cell 14).trans q14, (R0.cell 15).trans q15⟩
  clear cb
  go_region_law (first | (refine step_call rfl 77 _ _ rfl #[.string (bs name)] (by simp [go_sem, Act.eval]) ?_; refine (hnm _).mono ?_; rintro e w2 hG2; obtain rfl := hG2.bad rfl; refine (fun (_ : wpAny Tryz.prog Region.Mode.any #[] (fun _ _ _ => True) 0 #[] ⟨#[], []⟩ w1) => ⟨rfl, .ofBad HF.out (bl_then R1.bl hG2.below)⟩) ?_))
  all_goals trivial
set_option maxRecDepth 100000 in
set_option maxHeartbeats 2000000 in
theorem stmt_set_e {B : Nat} {S : Nat → Prop} (cs : Array Value) (name : List UInt8) (sec : Bool) (len fr to k1 : Int) (n1 : Nat) (o1 : Int) (m1 : List UInt8) (l1 : List Ex) (k2 : Int) (n2 : Nat) (o2 : Int) (m2 : List UInt8) (l2 : List Ex) (body els : List Sm) (a1 : Option Addr) (c1 : Nat) (a2 : Option Addr) (c2 : Nat) (a3 : Option Addr) (c3 : Nat) (a4 : Option Addr) (c4 : Nat) (w : World)
    (hcs : cs = smA 3 name sec len fr to k1 n1 o1 m1 a1 l1.length c1 k2 n2 o2 m2 a2 l2.length c2 a3 body.length c3 a4 els.length c4) (hg : Glob B w) (hr2 : exR w S a2 l2) (hc2 : l2.length ≤ c2) (hm2 : exW (.mk k2 n2 o2 m2 l2) ≤ 1000000) (hok2 : exOk (.mk k2 n2 o2 m2 l2)) (hn : isName name = true) (hs2 : shE (.mk k2 n2 o2 m2 l2) = none) :
    Calls Tryz.prog 89 #[.agg cs] w (Shows NdV w (shS (.mk 3 name sec len fr to (.mk k1 n1 o1 m1 l1) (.mk k2 n2 o2 m2 l2) body els))) := by
  have HF : Hid (shS (.mk 3 name sec len fr to (.mk k1 n1 o1 m1 l1) (.mk k2 n2 o2 m2 l2) body els) = none) := by
    show _ = _
    rw [shS, if_neg (by omega), if_pos rfl, shName, if_pos hn, hs2]; rfl
  have HN : Hid (∀ w1, St w cs w1 → Calls Tryz.prog 90 #[exV k2 n2 o2 m2 a2 l2.length c2] w1 (Shows NdV w1 (none))) := fun w1 h1 => by
    rw [← hs2]
    exact expr_any _ w1 _ hm2 hok2 (hg.below h1.bl) ⟨a2, c2, rfl, hc2, exR_mono (T := S) (fun i hi hlt => ⟨hi, h1.bl.block i hlt⟩) hr2⟩
  have hnm := nameNode_any name
  rw [shName, if_pos hn] at hnm
  have q0 : cs[0]? = some (.int .i64 3) := by rw [hcs]; rfl
  have q1 : cs[1]? = some (.string (bs name)) := by rw [hcs]; rfl
  have q11 : cs[11]? = some (.int .i64 k2) := by rw [hcs]; rfl
  have q12 : cs[12]? = some (.int .u32 (n2 : Nat)) := by rw [hcs]; rfl
  have q13 : cs[13]? = some (.int .i64 o2) := by rw [hcs]; rfl
  have q14 : cs[14]? = some (.string (bs m2)) := by rw [hcs]; rfl
  have q15 : cs[15]? = some (.slice a2 l2.length c2) := by rw [hcs]; rfl
  have HCS : Hid (cs = smA 3 name sec len fr to k1 n1 o1 m1 a1 l1.length c1 k2 n2 o2 m2 a2 l2.length c2 a3 body.length c3 a4 els.length c4) := hcs
  have hia : (Tryz.prog.info? 110).map (·.size) = some cs.size := by rw [hcs]; exact info_stmt
  have hzs : zS.size = cs.size := by rw [hcs]; rfl
  have hone : cs.all (·.oneCell') = true := by rw [hcs]; simp [smA, Value.oneCell']
  clear hcs hr2 hm2 hok2 hg hc2 hn hs2
  obtain ⟨w1, hw1⟩ : ∃ w1, w1 = st0 w cs := ⟨_, rfl⟩
  have R0 : St w cs w1 := by rw [hw1]; exact St.start w cs
  have HW1 : Hid (w1 = ((((w.alloc (.cells cs 110)).alloc nd0).alloc nd0).alloc (.cells zS 110)).setRow (w.heap.size + 3) cs) := hw1
  clear hw1
  have hbx : (((w.alloc (.cells cs 110)).alloc nd0).alloc nd0).heap[w.heap.size]? = some (.cells cs 110 (0, 0)) := by
    rw [heap_alloc_old _ _ (by simp; omega), heap_alloc_old _ _ (by simp)]; exact heap_alloc_new w _
  have hmo : ((((w.alloc (.cells cs 110)).alloc nd0).alloc nd0).alloc (.cells zS 110)).heap[w.heap.size + 3]? = some (.cells zS 110 (0, 0)) := by
    have := heap_alloc_new (((w.alloc (.cells cs 110)).alloc nd0).alloc nd0) (.cells zS 110)
    simpa using this
  have cb := R0.cell
  have sz := R0.lt
  have R1 : St w cs w1.drew := R0.on (drew_bl w1)
  go_enter Tryz.func89, Tryz.ntmps89
  go_wp2_with (first | (refine wpList_load_row rfl 110 (.tmp 1) rfl w.heap.size rfl 110 cs (0, 0) _ hbx Tryz.underlying110 rfl hia ?_) | (refine wpList_store_row rfl 110 (.tmp 4) _ rfl (w.heap.size + 3) cs rfl rfl 110 zS hmo hia hzs hone ?_; rw [← HW1.out]; clear hbx hmo))
  obtain ⟨t1, t11, t12, t13, t14, t15⟩ : w1.cell? ⟨w.heap.size, 1, none⟩ = some (.string (bs name)) ∧ w1.cell? ⟨w.heap.size, 11, none⟩ = some (.int .i64 k2) ∧ w1.cell? ⟨w.heap.size, 12, none⟩ = some (.int .u32 (n2 : Nat)) ∧ w1.cell? ⟨w.heap.size, 13, none⟩ = some (.int .i64 o2) ∧ w1.cell? ⟨w.heap.size, 14, none⟩ = some (.string (bs m2)) ∧ w1.cell? ⟨w.heap.size, 15, none⟩ = some (.slice a2 l2.length c2) := ⟨(R0.cell 1).trans q1, (R0.cell 11).trans q11, (R0.cell 12).trans q12, (R0.cell 13).trans q13, (R0.cell 14).trans q14, (R0.cell 15).trans q15⟩
  clear cb
  go_region_law (first | (refine step_call rfl 77 _ _ rfl #[.string (bs name)] (by simp [go_sem, Act.eval]) ?_; refine (hnm _).mono ?_; rintro e w2 hG2; obtain ⟨v2, rfl, a21, k21, rfl, hc21, hr21⟩ := hG2.ok _ rfl; have R2 := R1.on hG2.below; obtain ⟨u1, u11, u12, u13, u14, u15⟩ : w2.cell? ⟨w.heap.size, 1, none⟩ = some (.string (bs name)) ∧ w2.cell? ⟨w.heap.size, 11, none⟩ = some (.int .i64 k2) ∧ w2.cell? ⟨w.heap.size, 12, none⟩ = some (.int .u32 (n2 : Nat)) ∧ w2.cell? ⟨w.heap.size, 13, none⟩ = some (.int .i64 o2) ∧ w2.cell? ⟨w.heap.size, 14, none⟩ = some (.string (bs m2)) ∧ w2.cell? ⟨w.heap.size, 15, none⟩ = some (.slice a2 l2.length c2) := ⟨(R2.cell 1).trans q1, (R2.cell 11).trans q11, (R2.cell 12).trans q12, (R2.cell 13).trans q13, (R2.cell 14).trans q14, (R2.cell 15).trans q15⟩) | (refine step_call rfl 90 _ _ rfl #[exV k2 n2 o2 m2 a2 l2.length c2] (by simp [go_sem, Act.eval]) ?_; refine (HN.out _ R2).mono ?_; rintro e w3 hG3; obtain rfl := hG3.bad rfl; refine (fun (_ : wpAny Tryz.prog Region.Mode.any #[] (fun _ _ _ => True) 0 #[] ⟨#[], []⟩ w1) => ⟨rfl, .ofBad HF.out (bl_then R2.bl hG3.below)⟩) ?_))
  all_goals trivial
end Go.Proofs.YtbpdhegfdmppgaaGreatDoor.Sh

/- CONTRACT of stmtNode at put. -/
namespace Go.Proofs.YtbpdhegfdmppgaaGreatDoor.Sh
open Go.ChangeShapes Go.WideShapes Go.ChangeAt Go.RowKit

set_option maxRecDepth 100000 in
set_option maxHeartbeats 2000000 in
theorem stmt_put_yes {B : Nat} {S : Nat → Prop} (cs : Array Value) (name : List UInt8) (sec : Bool) (len fr to k1 : Int) (n1 : Nat) (o1 : Int) (m1 : List UInt8) (l1 : List Ex) (k2 : Int) (n2 : Nat) (o2 : Int) (m2 : List UInt8) (l2 : List Ex) (body els : List Sm) (a1 : Option Addr) (c1 : Nat) (a2 : Option Addr) (c2 : Nat) (a3 : Option Addr) (c3 : Nat) (a4 : Option Addr) (c4 : Nat) (w : World)
    (hcs : cs = smA 4 name sec len fr to k1 n1 o1 m1 a1 l1.length c1 k2 n2 o2 m2 a2 l2.length c2 a3 body.length c3 a4 els.length c4) (hg : Glob B w) (hr1 : exR w S a1 l1) (hc1 : l1.length ≤ c1) (hm1 : exW (.mk k1 n1 o1 m1 l1) ≤ 1000000) (hok1 : exOk (.mk k1 n1 o1 m1 l1)) (hr2 : exR w S a2 l2) (hc2 : l2.length ≤ c2) (hm2 : exW (.mk k2 n2 o2 m2 l2) ≤ 1000000) (hok2 : exOk (.mk k2 n2 o2 m2 l2)) (hn : isName name = true) (il1 : Bool) (wd1 : List UInt8) (ks1 : List Nd) (p1 : Int) (hs1 : shE (.mk k1 n1 o1 m1 l1) = some (.mk il1 wd1 ks1 p1)) (il2 : Bool) (wd2 : List UInt8) (ks2 : List Nd) (p2 : Int) (hs2 : shE (.mk k2 n2 o2 m2 l2) = some (.mk il2 wd2 ks2 p2)) :
    Calls Tryz.prog 89 #[.agg cs] w (Shows NdV w (shS (.mk 4 name sec len fr to (.mk k1 n1 o1 m1 l1) (.mk k2 n2 o2 m2 l2) body els))) := by
  have HN1 : Hid (∀ w1, St w cs w1 → Calls Tryz.prog 90 #[exV k1 n1 o1 m1 a1 l1.length c1] w1 (Shows NdV w1 (some (.mk il1 wd1 ks1 p1)))) := fun w1 h1 => by
    rw [← hs1]
    exact expr_any _ w1 _ hm1 hok1 (hg.below h1.bl) ⟨a1, c1, rfl, hc1, exR_mono (T := S) (fun i hi hlt => ⟨hi, h1.bl.block i hlt⟩) hr1⟩
  have HN2 : Hid (∀ w1, St w cs w1 → Calls Tryz.prog 90 #[exV k2 n2 o2 m2 a2 l2.length c2] w1 (Shows NdV w1 (some (.mk il2 wd2 ks2 p2)))) := fun w1 h1 => by
    rw [← hs2]
    exact expr_any _ w1 _ hm2 hok2 (hg.below h1.bl) ⟨a2, c2, rfl, hc2, exR_mono (T := S) (fun i hi hlt => ⟨hi, h1.bl.block i hlt⟩) hr2⟩
  have hnm := nameNode_any name
  rw [shName, if_pos hn] at hnm
  have q0 : cs[0]? = some (.int .i64 4) := by rw [hcs]; rfl
  have q1 : cs[1]? = some (.string (bs name)) := by rw [hcs]; rfl
  have q6 : cs[6]? = some (.int .i64 k1) := by rw [hcs]; rfl
  have q7 : cs[7]? = some (.int .u32 (n1 : Nat)) := by rw [hcs]; rfl
  have q8 : cs[8]? = some (.int .i64 o1) := by rw [hcs]; rfl
  have q9 : cs[9]? = some (.string (bs m1)) := by rw [hcs]; rfl
  have q10 : cs[10]? = some (.slice a1 l1.length c1) := by rw [hcs]; rfl
  have q11 : cs[11]? = some (.int .i64 k2) := by rw [hcs]; rfl
  have q12 : cs[12]? = some (.int .u32 (n2 : Nat)) := by rw [hcs]; rfl
  have q13 : cs[13]? = some (.int .i64 o2) := by rw [hcs]; rfl
  have q14 : cs[14]? = some (.string (bs m2)) := by rw [hcs]; rfl
  have q15 : cs[15]? = some (.slice a2 l2.length c2) := by rw [hcs]; rfl
  have HCS : Hid (cs = smA 4 name sec len fr to k1 n1 o1 m1 a1 l1.length c1 k2 n2 o2 m2 a2 l2.length c2 a3 body.length c3 a4 els.length c4) := hcs
  have hia : (Tryz.prog.info? 110).map (·.size) = some cs.size := by rw [hcs]; exact info_stmt
  have hzs : zS.size = cs.size := by rw [hcs]; rfl
  have hone : cs.all (·.oneCell') = true := by rw [hcs]; simp [smA, Value.oneCell']
  clear hcs hr1 hm1 hok1 hc1 hr2 hm2 hok2 hg hc2
  obtain ⟨w1, hw1⟩ : ∃ w1, w1 = st0 w cs := ⟨_, rfl⟩
  have R0 : St w cs w1 := by rw [hw1]; exact St.start w cs
  have HW1 : Hid (w1 = ((((w.alloc (.cells cs 110)).alloc nd0).alloc nd0).alloc (.cells zS 110)).setRow (w.heap.size + 3) cs) := hw1
  clear hw1
  have hbx : (((w.alloc (.cells cs 110)).alloc nd0).alloc nd0).heap[w.heap.size]? = some (.cells cs 110 (0, 0)) := by
    rw [heap_alloc_old _ _ (by simp; omega), heap_alloc_old _ _ (by simp)]; exact heap_alloc_new w _
  have hmo : ((((w.alloc (.cells cs 110)).alloc nd0).alloc nd0).alloc (.cells zS 110)).heap[w.heap.size + 3]? = some (.cells zS 110 (0, 0)) := by
    have := heap_alloc_new (((w.alloc (.cells cs 110)).alloc nd0).alloc nd0) (.cells zS 110)
    simpa using this
  have cb := R0.cell
  have sz := R0.lt
  have R1 : St w cs w1.drew := R0.on (drew_bl w1)
  go_enter Tryz.func89, Tryz.ntmps89
  go_wp2_with (first | (refine wpList_load_row rfl 110 (.tmp 1) rfl w.heap.size rfl 110 cs (0, 0) _ hbx Tryz.underlying110 rfl hia ?_) | (refine wpList_store_row rfl 110 (.tmp 4) _ rfl (w.heap.size + 3) cs rfl rfl 110 zS hmo hia hzs hone ?_; rw [← HW1.out]; clear hbx hmo))
  have s1 : w1.cell? ⟨w.heap.size, 1, none⟩ = some (.string (bs name)) ∧ w1.cell? ⟨w.heap.size, 6, none⟩ = some (.int .i64 k1) ∧ w1.cell? ⟨w.heap.size, 7, none⟩ = some (.int .u32 (n1 : Nat)) ∧ w1.cell? ⟨w.heap.size, 8, none⟩ = some (.int .i64 o1) ∧ w1.cell? ⟨w.heap.size, 9, none⟩ = some (.string (bs m1)) ∧ w1.cell? ⟨w.heap.size, 10, none⟩ = some (.slice a1 l1.length c1) ∧ w1.cell? ⟨w.heap.size, 11, none⟩ = some (.int .i64 k2) ∧ w1.cell? ⟨w.heap.size, 12, none⟩ = some (.int .u32 (n2 : Nat)) ∧ w1.cell? ⟨w.heap.size, 13, none⟩ = some (.int .i64 o2) ∧ w1.cell? ⟨w.heap.size, 14, none⟩ = some (.string (bs m2)) ∧ w1.cell? ⟨w.heap.size, 15, none⟩ = some (.slice a2 l2.length c2) := ⟨(R0.cell 1).trans q1, (R0.cell 6).trans q6, (R0.cell 7).trans q7, (R0.cell 8).trans q8, (R0.cell 9).trans q9, (R0.cell 10).trans q10, (R0.cell 11).trans q11, (R0.cell 12).trans q12, (R0.cell 13).trans q13, (R0.cell 14).trans q14, (R0.cell 15).trans q15⟩
  clear cb
  go_region_held3 (fun w' => w'.cell? ⟨w.heap.size, 1, none⟩ = some (.string (bs name)) ∧ w'.cell? ⟨w.heap.size, 6, none⟩ = some (.int .i64 k1) ∧ w'.cell? ⟨w.heap.size, 7, none⟩ = some (.int .u32 (n1 : Nat)) ∧ w'.cell? ⟨w.heap.size, 8, none⟩ = some (.int .i64 o1) ∧ w'.cell? ⟨w.heap.size, 9, none⟩ = some (.string (bs m1)) ∧ w'.cell? ⟨w.heap.size, 10, none⟩ = some (.slice a1 l1.length c1) ∧ w'.cell? ⟨w.heap.size, 11, none⟩ = some (.int .i64 k2) ∧ w'.cell? ⟨w.heap.size, 12, none⟩ = some (.int .u32 (n2 : Nat)) ∧ w'.cell? ⟨w.heap.size, 13, none⟩ = some (.int .i64 o2) ∧ w'.cell? ⟨w.heap.size, 14, none⟩ = some (.string (bs m2)) ∧ w'.cell? ⟨w.heap.size, 15, none⟩ = some (.slice a2 l2.length c2))
    (first | with_reducible exact ⟨(R9.wcell _ _ _ _ 1).trans q1, (R9.wcell _ _ _ _ 6).trans q6, (R9.wcell _ _ _ _ 7).trans q7, (R9.wcell _ _ _ _ 8).trans q8, (R9.wcell _ _ _ _ 9).trans q9, (R9.wcell _ _ _ _ 10).trans q10, (R9.wcell _ _ _ _ 11).trans q11, (R9.wcell _ _ _ _ 12).trans q12, (R9.wcell _ _ _ _ 13).trans q13, (R9.wcell _ _ _ _ 14).trans q14, (R9.wcell _ _ _ _ 15).trans q15⟩ | with_reducible exact ⟨(R9.cell 1).trans q1, (R9.cell 6).trans q6, (R9.cell 7).trans q7, (R9.cell 8).trans q8, (R9.cell 9).trans q9, (R9.cell 10).trans q10, (R9.cell 11).trans q11, (R9.cell 12).trans q12, (R9.cell 13).trans q13, (R9.cell 14).trans q14, (R9.cell 15).trans q15⟩ | with_reducible exact ⟨((R4.alloc _).cell 1).trans q1, ((R4.alloc _).cell 6).trans q6, ((R4.alloc _).cell 7).trans q7, ((R4.alloc _).cell 8).trans q8, ((R4.alloc _).cell 9).trans q9, ((R4.alloc _).cell 10).trans q10, ((R4.alloc _).cell 11).trans q11, ((R4.alloc _).cell 12).trans q12, ((R4.alloc _).cell 13).trans q13, ((R4.alloc _).cell 14).trans q14, ((R4.alloc _).cell 15).trans q15⟩ | with_reducible exact ⟨(R4.cell 1).trans q1, (R4.cell 6).trans q6, (R4.cell 7).trans q7, (R4.cell 8).trans q8, (R4.cell 9).trans q9, (R4.cell 10).trans q10, (R4.cell 11).trans q11, (R4.cell 12).trans q12, (R4.cell 13).trans q13, (R4.cell 14).trans q14, (R4.cell 15).trans q15⟩ | with_reducible exact ⟨(R3.cell 1).trans q1, (R3.cell 6).trans q6, (R3.cell 7).trans q7, (R3.cell 8).trans q8, (R3.cell 9).trans q9, (R3.cell 10).trans q10, (R3.cell 11).trans q11, (R3.cell 12).trans q12, (R3.cell 13).trans q13, (R3.cell 14).trans q14, (R3.cell 15).trans q15⟩ | with_reducible exact ⟨(R2.cell 1).trans q1, (R2.cell 6).trans q6, (R2.cell 7).trans q7, (R2.cell 8).trans q8, (R2.cell 9).trans q9, (R2.cell 10).trans q10, (R2.cell 11).trans q11, (R2.cell 12).trans q12, (R2.cell 13).trans q13, (R2.cell 14).trans q14, (R2.cell 15).trans q15⟩ | with_reducible exact ⟨(R1.cell 1).trans q1, (R1.cell 6).trans q6, (R1.cell 7).trans q7, (R1.cell 8).trans q8, (R1.cell 9).trans q9, (R1.cell 10).trans q10, (R1.cell 11).trans q11, (R1.cell 12).trans q12, (R1.cell 13).trans q13, (R1.cell 14).trans q14, (R1.cell 15).trans q15⟩ | go_keep)
    (first | (go_at_call 77; refine (hnm _).mono ?_; rintro e w2 hG2; obtain ⟨v2, rfl, a21, k21, rfl, hc21, hr21⟩ := hG2.ok _ rfl; have R2 := R1.on hG2.below; have sz2 := R2.lt) | (go_at_call_of 90 (Value.agg #[Value.int .i64 k1, Value.int .u32 (n1 : Nat), Value.int .i64 o1, Value.string (bs m1), Value.slice a1 l1.length c1]); refine (HN1.out _ R2).mono ?_; rintro e w3 hG3; obtain ⟨v3, rfl, a31, k31, rfl, hc31, hr31⟩ := hG3.ok _ rfl; have R3 := R2.on hG3.below; have sz3 := R3.lt) | (go_at_call_of 90 (Value.agg #[Value.int .i64 k2, Value.int .u32 (n2 : Nat), Value.int .i64 o2, Value.string (bs m2), Value.slice a2 l2.length c2]); refine (HN2.out _ R3).mono ?_; rintro e w4 hG4; obtain ⟨v4, rfl, a41, k41, rfl, hc41, hr41⟩ := hG4.ok _ rfl; have R4 := R3.on hG4.below; have sz4 := R4.lt; have hro := three_row (il1 := false) (wd1 := name) (p1 := 0) (il2 := il1) (wd2 := wd1) (p2 := p1) (il3 := il2) (wd3 := wd2) (p3 := p2) (S := fun b => w.heap.size + 4 ≤ b) hc21 (kNd.row_mono (by decide) (row_on (row_on hr21 hG3.below) hG4.below) (fun i hi _ => ⟨by have : w1.heap.size ≤ i := hi; omega, rfl⟩)) hc31 (kNd.row_mono (by decide) (row_on hr31 hG4.below) (fun i hi _ => ⟨by omega, rfl⟩)) hc41 (kNd.row_mono (by decide) hr41 (fun i hi _ => ⟨by omega, rfl⟩)); have hfo := form_any [112, 117, 116] (some ⟨w4.heap.size, 0, none⟩) [.mk false name [] 0, .mk il1 wd1 ks1 p1, .mk il2 wd2 ks2 p2] 3 _ hro (by simp)) | (go_at_call 76; refine hfo.mono ?_; rintro e w9 ⟨⟨v9, rfl, a9, k9, rfl, hc9, hr9⟩, hb9⟩; have R9 := (R4.alloc _).on hb9; obtain ⟨d0, d1, d2, d3, z0, z1, z2, z3⟩ := R9.ndf))
  have sz5 := R9.lt
  generalize hw6 : ((((w9.setCell ⟨w.heap.size + 1 + 1, 0, none⟩ (.bool true)).setCell ⟨w.heap.size + 1 + 1, 1, none⟩ (.string (bs []))).setCell ⟨w.heap.size + 1 + 1, 2, none⟩ (.slice a9 4 k9)).setCell ⟨w.heap.size + 1 + 1, 3, none⟩ (.int .i64 0)) = w6
  simp only [Nat.add_assoc, Nat.reduceAdd] at hw6
  have R6 : Sn w cs (fm [112, 117, 116] [.mk false name [] 0, .mk il1 wd1 ks1 p1, .mk il2 wd2 ks2 p2]) w6 := Sn.of R9 (n := 4) rfl hc9 (kNd.row_mono (by decide) hr9 fun i hi _ => ⟨by rcases hi with (hi | hi) | hi; exact hi; omega; (simp at hi; omega), rfl⟩) hw6
  have HR6 : Hid _ := R6
  have hmo6 : w6.heap[w.heap.size + 1 + 1 + 1]? = some (.cells cs 110 (0, 0)) := R6.more
  have cm : ∀ i, w6.cell? ⟨w.heap.size + 1 + 1 + 1, i, none⟩ = cs[i]? := fun i => by simp [World.cell?, hmo6]
  have fz : ∀ i, w6.frozen? ⟨w.heap.size + 1 + 1 + 1, i, none⟩ = false := fun i => by simp [World.frozen?, hmo6]
  clear hw6 R6 hfo hr9 hb9 R1 R2 R3 R4 R9 R0 hG2 hG3 hG4 hro hr21 hr31 hr41 s1 d0 d1 d2 d3 z0 z1 z2 z3 hnm
  have HM6 : Hid _ := hmo6
  clear hmo6
  have hiaM : ∀ (M : Array Value), M.size = cs.size → (Tryz.prog.info? 110).map (·.size) = some M.size := fun M h => by rw [h]; exact hia
  clear hia hzs hone HW1
  have HIB : Hid (∀ W : World, Calls Tryz.prog 110 #[.agg (((((((((((cs.setIfInBounds 1 (.string ⟨#[]⟩)).setIfInBounds 6 (.int .i64 0)).setIfInBounds 7 (.int .u32 0)).setIfInBounds 8 (.int .i64 0)).setIfInBounds 9 (.string ⟨#[]⟩)).setIfInBounds 10 (.slice none 0 0)).setIfInBounds 11 (.int .i64 0)).setIfInBounds 12 (.int .u32 0)).setIfInBounds 13 (.int .i64 0)).setIfInBounds 14 (.string ⟨#[]⟩)).setIfInBounds 15 (.slice none 0 0))] W fun e w' => e = .returned (.bool (bareB [] sec len fr to .none .none body els)) ∧ Below W.heap.size W w') := fun W => isBare_any _ 4 [] sec len fr to 0 0 0 [] [] 0 0 0 [] [] body els none 0 none 0 a3 c3 a4 c4 W (by rw [HCS.out]; simp only [smA, List.setIfInBounds_toArray, List.set_cons_zero, List.set_cons_succ]; rfl)
  have hR : ∀ W : World, Hid ((((((((((((w6.setCell ⟨w.heap.size + 1 + 1 + 1, 1, none⟩ (.string ⟨#[]⟩)).setCell ⟨w.heap.size + 1 + 1 + 1, 6, none⟩ (.int .i64 0)).setCell ⟨w.heap.size + 1 + 1 + 1, 7, none⟩ (.int .u32 0)).setCell ⟨w.heap.size + 1 + 1 + 1, 8, none⟩ (.int .i64 0)).setCell ⟨w.heap.size + 1 + 1 + 1, 9, none⟩ (.string ⟨#[]⟩)).setCell ⟨w.heap.size + 1 + 1 + 1, 10, none⟩ (.slice none 0 0)).setCell ⟨w.heap.size + 1 + 1 + 1, 11, none⟩ (.int .i64 0)).setCell ⟨w.heap.size + 1 + 1 + 1, 12, none⟩ (.int .u32 0)).setCell ⟨w.heap.size + 1 + 1 + 1, 13, none⟩ (.int .i64 0)).setCell ⟨w.heap.size + 1 + 1 + 1, 14, none⟩ (.string ⟨#[]⟩)).setCell ⟨w.heap.size + 1 + 1 + 1, 15, none⟩ (.slice none 0 0)) = W) → Sm5 w (fm [112, 117, 116] [.mk false name [] 0, .mk il1 wd1 ks1 p1, .mk il2 wd2 ks2 p2]) W := fun W hW => by
    have e := hW.out
    subst e
    exact Sm5.of HR6.out (fun i hi => by rw [setCell_other hi, setCell_other hi, setCell_other hi, setCell_other hi, setCell_other hi, setCell_other hi, setCell_other hi, setCell_other hi, setCell_other hi, setCell_other hi, setCell_other hi]) (bl_set5 (bl_set5 (bl_set HR6.out.bl _ _ _ (by omega)) _ _ _ _ _ _ _ _ _ _ _ (by omega)) _ _ _ _ _ _ _ _ _ _ _ (by omega))
  go_wp2_with (first | (refine wpList_load_row rfl 110 (.tmp 4) rfl (w.heap.size + 1 + 1 + 1) rfl 110 (((((((((((cs.setIfInBounds 1 (.string ⟨#[]⟩)).setIfInBounds 6 (.int .i64 0)).setIfInBounds 7 (.int .u32 0)).setIfInBounds 8 (.int .i64 0)).setIfInBounds 9 (.string ⟨#[]⟩)).setIfInBounds 10 (.slice none 0 0)).setIfInBounds 11 (.int .i64 0)).setIfInBounds 12 (.int .u32 0)).setIfInBounds 13 (.int .i64 0)).setIfInBounds 14 (.string ⟨#[]⟩)).setIfInBounds 15 (.slice none 0 0)) (0, 0) _ ?_ Tryz.underlying110 rfl ?_ ?_; (exact (set5 (set5 (set_over HM6.out)))); (exact hiaM _ (by simp)); refine Hid.out ?_))
  generalize hw7 : (((((((((((w6.setCell ⟨w.heap.size + 1 + 1 + 1, 1, none⟩ (.string ⟨#[]⟩)).setCell ⟨w.heap.size + 1 + 1 + 1, 6, none⟩ (.int .i64 0)).setCell ⟨w.heap.size + 1 + 1 + 1, 7, none⟩ (.int .u32 0)).setCell ⟨w.heap.size + 1 + 1 + 1, 8, none⟩ (.int .i64 0)).setCell ⟨w.heap.size + 1 + 1 + 1, 9, none⟩ (.string ⟨#[]⟩)).setCell ⟨w.heap.size + 1 + 1 + 1, 10, none⟩ (.slice none 0 0)).setCell ⟨w.heap.size + 1 + 1 + 1, 11, none⟩ (.int .i64 0)).setCell ⟨w.heap.size + 1 + 1 + 1, 12, none⟩ (.int .u32 0)).setCell ⟨w.heap.size + 1 + 1 + 1, 13, none⟩ (.int .i64 0)).setCell ⟨w.heap.size + 1 + 1 + 1, 14, none⟩ (.string ⟨#[]⟩)).setCell ⟨w.heap.size + 1 + 1 + 1, 15, none⟩ (.slice none 0 0)) = w7
  have HR7 := hR w7 hw7
  clear hw7 hR cm fz HM6 hiaM HR6
  refine Lib.hid ?_
  cases hbr : bareB [] sec len fr to .none .none body els with
  | false =>
    rw [hbr] at HIB
    have HF : Hid (shS (.mk 4 name sec len fr to (.mk k1 n1 o1 m1 l1) (.mk k2 n2 o2 m2 l2) body els) = none) := by
      show _ = _
      rw [shS, if_neg (by omega), if_neg (by omega), if_neg (by omega), if_pos rfl, shName, if_pos hn, hs1, hs2]
      simp only [Option.bind_some]
      rw [if_neg fun h => by rw [bare_put h] at hbr; cases hbr]
    clear hbr
    go_wp2_with (first | (go_at_call 110; refine (HIB.out _).mono ?_; rintro e w8 ⟨rfl, hb8⟩) | (go_at_call 75; refine (must_no _).mono ?_; rintro e w9 ⟨rfl, rfl⟩))
    exact ⟨rfl, .ofBad HF.out (bl_then HR7.bl hb8)⟩
  | true =>
    rw [hbr] at HIB
    have HF : Hid (shS (.mk 4 name sec len fr to (.mk k1 n1 o1 m1 l1) (.mk k2 n2 o2 m2 l2) body els) = some (fm [112, 117, 116] [.mk false name [] 0, .mk il1 wd1 ks1 p1, .mk il2 wd2 ks2 p2])) := by
      show _ = _
      rw [shS, if_neg (by omega), if_neg (by omega), if_neg (by omega), if_pos rfl, shName, if_pos hn, hs1, hs2]
      simp only [Option.bind_some]
      rw [if_pos (put_bare hbr)]; rfl
    clear hbr
    go_wp2_with (first | (go_at_call 110; refine (HIB.out _).mono ?_; rintro e w8 ⟨rfl, hb8⟩; have R8 := HR7.on hb8; refine Hid.out ?_))
    refine Lib.hid ?_
    obtain ⟨il, wd, ks, p, na, nc, hnd, hno, hnc, hnr⟩ := R8.node
    rw [hnd] at HF
    have hres8 := R8.res
    have HB8 : Hid (Below w.heap.size w w8) := R8.bl
    have HNR : Hid _ := hnr
    have nlt : w.heap.size + 1 + 1 < w8.heap.size := lt_of_some hno
    obtain ⟨e0, e1, e2, e3, f0, f1, f2, f3⟩ := nd_free (b := w.heap.size + 1 + 1) hno
    obtain ⟨d0, d1, d2, d3, g0, g1, g2, g3⟩ := nd_free hres8
    clear hb8 HR7 R8 hno hnd hnr HIB
    go_wp2_with (first | (go_at_call 75; refine (must_yes _).mono ?_; rintro e w9 ⟨rfl, hq⟩; have hq' := hq.symm; subst hq'))
    exact bodyPost_ret_by (results_row Tryz.results89 rfl (load_nd (set4c hres8) rfl)) rfl (.ofOk HF.out (bl_set4 HB8.out _ _ _ _ _ (by omega)) ⟨na, nc, rfl, hnc, kNd.row_mono (by decide) HNR.out fun i hi _ => ⟨by omega, set4o (by omega)⟩⟩)
end Go.Proofs.YtbpdhegfdmppgaaGreatDoor.Sh

/- CONTRACT of stmtNode at if. -/
namespace Go.Proofs.YtbpdhegfdmppgaaGreatDoor.Sh
open Go.ChangeShapes Go.WideShapes Go.ChangeAt Go.RowKit

set_option maxRecDepth 100000 in
set_option maxHeartbeats 2000000 in
theorem stmt_if_yes {B : Nat} {S : Nat → Prop} (cs : Array Value) (name : List UInt8) (sec : Bool) (len fr to k1 : Int) (n1 : Nat) (o1 : Int) (m1 : List UInt8) (l1 : List Ex) (k2 : Int) (n2 : Nat) (o2 : Int) (m2 : List UInt8) (l2 : List Ex) (body els : List Sm) (a1 : Option Addr) (c1 : Nat) (a2 : Option Addr) (c2 : Nat) (a3 : Option Addr) (c3 : Nat) (a4 : Option Addr) (c4 : Nat) (w : World)
    (hcs : cs = smA 6 name sec len fr to k1 n1 o1 m1 a1 l1.length c1 k2 n2 o2 m2 a2 l2.length c2 a3 body.length c3 a4 els.length c4) (hg : Glob B w) (hr2 : exR w S a2 l2) (hc2 : l2.length ≤ c2) (hm2 : exW (.mk k2 n2 o2 m2 l2) ≤ 1000000) (hok2 : exOk (.mk k2 n2 o2 m2 l2)) (il2 : Bool) (wd2 : List UInt8) (ks2 : List Nd) (p2 : Int) (hs2 : shE (.mk k2 n2 o2 m2 l2) = some (.mk il2 wd2 ks2 p2)) (z3 : List Nd) (_hz3 : z3.length ≤ 1000000) (z4 : List Nd) (_hz4 : z4.length ≤ 1000000) (hs3 : shSs body = some z3) (hs4 : shSs els = some z4) (hB3 : ∀ w1, St w cs w1 → Calls Tryz.prog 88 #[.slice a3 body.length c3, .func (.func 89) #[] #[]] w1 (Shows kNd.rd w1 (some z3))) (hB4 : ∀ w1, St w cs w1 → Calls Tryz.prog 88 #[.slice a4 els.length c4, .func (.func 89) #[] #[]] w1 (Shows kNd.rd w1 (some z4))) :
    Calls Tryz.prog 89 #[.agg cs] w (Shows NdV w (shS (.mk 6 name sec len fr to (.mk k1 n1 o1 m1 l1) (.mk k2 n2 o2 m2 l2) body els))) := by
  have HN : Hid (∀ w1, St w cs w1 → Calls Tryz.prog 90 #[exV k2 n2 o2 m2 a2 l2.length c2] w1 (Shows NdV w1 (some (.mk il2 wd2 ks2 p2)))) := fun w1 h1 => by
    rw [← hs2]
    exact expr_any _ w1 _ hm2 hok2 (hg.below h1.bl) ⟨a2, c2, rfl, hc2, exR_mono (T := S) (fun i hi hlt => ⟨hi, h1.bl.block i hlt⟩) hr2⟩
  have HB3 : Hid _ := hB3
  have HB4 : Hid _ := hB4
  clear hB3 hB4
  have q0 : cs[0]? = some (.int .i64 6) := by rw [hcs]; rfl
  have q11 : cs[11]? = some (.int .i64 k2) := by rw [hcs]; rfl
  have q12 : cs[12]? = some (.int .u32 (n2 : Nat)) := by rw [hcs]; rfl
  have q13 : cs[13]? = some (.int .i64 o2) := by rw [hcs]; rfl
  have q14 : cs[14]? = some (.string (bs m2)) := by rw [hcs]; rfl
  have q15 : cs[15]? = some (.slice a2 l2.length c2) := by rw [hcs]; rfl
  have q16 : cs[16]? = some (.slice a3 body.length c3) := by rw [hcs]; rfl
  have q17 : cs[17]? = some (.slice a4 els.length c4) := by rw [hcs]; rfl
  have HCS : Hid (cs = smA 6 name sec len fr to k1 n1 o1 m1 a1 l1.length c1 k2 n2 o2 m2 a2 l2.length c2 a3 body.length c3 a4 els.length c4) := hcs
  have hia : (Tryz.prog.info? 110).map (·.size) = some cs.size := by rw [hcs]; exact info_stmt
  have hzs : zS.size = cs.size := by rw [hcs]; rfl
  have hone : cs.all (·.oneCell') = true := by rw [hcs]; simp [smA, Value.oneCell']
  clear hcs hr2 hm2 hok2 hg hc2
  obtain ⟨w1, hw1⟩ : ∃ w1, w1 = st0 w cs := ⟨_, rfl⟩
  have R0 : St w cs w1 := by rw [hw1]; exact St.start w cs
  have HW1 : Hid (w1 = ((((w.alloc (.cells cs 110)).alloc nd0).alloc nd0).alloc (.cells zS 110)).setRow (w.heap.size + 3) cs) := hw1
  clear hw1
  have hbx : (((w.alloc (.cells cs 110)).alloc nd0).alloc nd0).heap[w.heap.size]? = some (.cells cs 110 (0, 0)) := by
    rw [heap_alloc_old _ _ (by simp; omega), heap_alloc_old _ _ (by simp)]; exact heap_alloc_new w _
  have hmo : ((((w.alloc (.cells cs 110)).alloc nd0).alloc nd0).alloc (.cells zS 110)).heap[w.heap.size + 3]? = some (.cells zS 110 (0, 0)) := by
    have := heap_alloc_new (((w.alloc (.cells cs 110)).alloc nd0).alloc nd0) (.cells zS 110)
    simpa using this
  have cb := R0.cell
  have sz := R0.lt
  have R1 : St w cs w1.drew := R0.on (drew_bl w1)
  go_enter Tryz.func89, Tryz.ntmps89
  go_wp2_with (first | (refine wpList_load_row rfl 110 (.tmp 1) rfl w.heap.size rfl 110 cs (0, 0) _ hbx Tryz.underlying110 rfl hia ?_) | (refine wpList_store_row rfl 110 (.tmp 4) _ rfl (w.heap.size + 3) cs rfl rfl 110 zS hmo hia hzs hone ?_; rw [← HW1.out]; clear hbx hmo))
  have s1 : w1.cell? ⟨w.heap.size, 11, none⟩ = some (.int .i64 k2) ∧ w1.cell? ⟨w.heap.size, 12, none⟩ = some (.int .u32 (n2 : Nat)) ∧ w1.cell? ⟨w.heap.size, 13, none⟩ = some (.int .i64 o2) ∧ w1.cell? ⟨w.heap.size, 14, none⟩ = some (.string (bs m2)) ∧ w1.cell? ⟨w.heap.size, 15, none⟩ = some (.slice a2 l2.length c2) ∧ w1.cell? ⟨w.heap.size, 16, none⟩ = some (.slice a3 body.length c3) ∧ w1.cell? ⟨w.heap.size, 17, none⟩ = some (.slice a4 els.length c4) := ⟨(R0.cell 11).trans q11, (R0.cell 12).trans q12, (R0.cell 13).trans q13, (R0.cell 14).trans q14, (R0.cell 15).trans q15, (R0.cell 16).trans q16, (R0.cell 17).trans q17⟩
  clear cb
  go_region_held3 (fun w' => w'.cell? ⟨w.heap.size, 11, none⟩ = some (.int .i64 k2) ∧ w'.cell? ⟨w.heap.size, 12, none⟩ = some (.int .u32 (n2 : Nat)) ∧ w'.cell? ⟨w.heap.size, 13, none⟩ = some (.int .i64 o2) ∧ w'.cell? ⟨w.heap.size, 14, none⟩ = some (.string (bs m2)) ∧ w'.cell? ⟨w.heap.size, 15, none⟩ = some (.slice a2 l2.length c2) ∧ w'.cell? ⟨w.heap.size, 16, none⟩ = some (.slice a3 body.length c3) ∧ w'.cell? ⟨w.heap.size, 17, none⟩ = some (.slice a4 els.length c4))
    (first | with_reducible exact ⟨(R9.wcell _ _ _ _ 11).trans q11, (R9.wcell _ _ _ _ 12).trans q12, (R9.wcell _ _ _ _ 13).trans q13, (R9.wcell _ _ _ _ 14).trans q14, (R9.wcell _ _ _ _ 15).trans q15, (R9.wcell _ _ _ _ 16).trans q16, (R9.wcell _ _ _ _ 17).trans q17⟩ | with_reducible exact ⟨(R9.cell 11).trans q11, (R9.cell 12).trans q12, (R9.cell 13).trans q13, (R9.cell 14).trans q14, (R9.cell 15).trans q15, (R9.cell 16).trans q16, (R9.cell 17).trans q17⟩ | with_reducible exact ⟨((R6.alloc _).cell 11).trans q11, ((R6.alloc _).cell 12).trans q12, ((R6.alloc _).cell 13).trans q13, ((R6.alloc _).cell 14).trans q14, ((R6.alloc _).cell 15).trans q15, ((R6.alloc _).cell 16).trans q16, ((R6.alloc _).cell 17).trans q17⟩ | with_reducible exact ⟨(R6.cell 11).trans q11, (R6.cell 12).trans q12, (R6.cell 13).trans q13, (R6.cell 14).trans q14, (R6.cell 15).trans q15, (R6.cell 16).trans q16, (R6.cell 17).trans q17⟩ | with_reducible exact ⟨(R5.cell 11).trans q11, (R5.cell 12).trans q12, (R5.cell 13).trans q13, (R5.cell 14).trans q14, (R5.cell 15).trans q15, (R5.cell 16).trans q16, (R5.cell 17).trans q17⟩ | with_reducible exact ⟨(R4.cell 11).trans q11, (R4.cell 12).trans q12, (R4.cell 13).trans q13, (R4.cell 14).trans q14, (R4.cell 15).trans q15, (R4.cell 16).trans q16, (R4.cell 17).trans q17⟩ | with_reducible exact ⟨(R3.cell 11).trans q11, (R3.cell 12).trans q12, (R3.cell 13).trans q13, (R3.cell 14).trans q14, (R3.cell 15).trans q15, (R3.cell 16).trans q16, (R3.cell 17).trans q17⟩ | with_reducible exact ⟨(R2.cell 11).trans q11, (R2.cell 12).trans q12, (R2.cell 13).trans q13, (R2.cell 14).trans q14, (R2.cell 15).trans q15, (R2.cell 16).trans q16, (R2.cell 17).trans q17⟩ | with_reducible exact ⟨(R1.cell 11).trans q11, (R1.cell 12).trans q12, (R1.cell 13).trans q13, (R1.cell 14).trans q14, (R1.cell 15).trans q15, (R1.cell 16).trans q16, (R1.cell 17).trans q17⟩ | go_keep)
    (first | (go_at_call 90; refine (HN.out _ R1).mono ?_; rintro e w2 hG2; obtain ⟨v2, rfl, a21, k21, rfl, hc21, hr21⟩ := hG2.ok _ rfl; have R2 := R1.on hG2.below; have sz2 := R2.lt) | (go_at_call_of 88 (Value.slice a3 body.length c3); refine (HB3.out _ R2).mono ?_; rintro e w3 hG3; obtain ⟨v3, rfl, a31, k31, rfl, hr31, hc31⟩ := hG3.ok _ rfl; have R3 := R2.on hG3.below; have sz3 := R3.lt) | (go_at_call_of 84 (Value.slice a31 z3.length k31); refine (list_any a31 z3.length k31 _).mono ?_; rintro e w4 ⟨rfl, hb4⟩; have R4 := R3.on hb4; have sz4 := R4.lt) | (go_at_call_of 88 (Value.slice a4 els.length c4); refine (HB4.out _ R4).mono ?_; rintro e w5 hG5; obtain ⟨v5, rfl, a51, k51, rfl, hr51, hc51⟩ := hG5.ok _ rfl; have R5 := R4.on hG5.below; have sz5 := R5.lt) | (go_at_call_of 84 (Value.slice a51 z4.length k51); refine (list_any a51 z4.length k51 _).mono ?_; rintro e w6 ⟨rfl, hb6⟩; have R6 := R5.on hb6; have sz6 := R6.lt; have hro := three_row (il1 := il2) (wd1 := wd2) (p1 := p2) (il2 := true) (wd2 := []) (p2 := 0) (il3 := true) (wd3 := []) (p3 := 0) (S := fun b => w.heap.size + 4 ≤ b) hc21 (kNd.row_mono (by decide) (row_on (row_on (row_on (row_on hr21 hG3.below) hb4) hG5.below) hb6) (fun i hi _ => ⟨by have : w1.heap.size ≤ i := hi; omega, rfl⟩)) hc31 (kNd.row_mono (by decide) (row_on (row_on (row_on hr31 hb4) hG5.below) hb6) (fun i hi _ => ⟨by omega, rfl⟩)) hc51 (kNd.row_mono (by decide) (row_on hr51 hb6) (fun i hi _ => ⟨by omega, rfl⟩)); have hfo := form_any [105, 102] (some ⟨w6.heap.size, 0, none⟩) [.mk il2 wd2 ks2 p2, .mk true [] z3 0, .mk true [] z4 0] 3 _ hro (by simp)) | (go_at_call 76; refine hfo.mono ?_; rintro e w9 ⟨⟨v9, rfl, a9, k9, rfl, hc9, hr9⟩, hb9⟩; have R9 := (R6.alloc _).on hb9; obtain ⟨d0, d1, d2, d3, zz0, zz1, zz2, zz3⟩ := R9.ndf))
  have szq := R9.lt
  generalize hw6 : ((((w9.setCell ⟨w.heap.size + 1 + 1, 0, none⟩ (.bool true)).setCell ⟨w.heap.size + 1 + 1, 1, none⟩ (.string (bs []))).setCell ⟨w.heap.size + 1 + 1, 2, none⟩ (.slice a9 4 k9)).setCell ⟨w.heap.size + 1 + 1, 3, none⟩ (.int .i64 0)) = wq
  simp only [Nat.add_assoc, Nat.reduceAdd] at hw6
  have Rq : Sn w cs (fm [105, 102] [.mk il2 wd2 ks2 p2, .mk true [] z3 0, .mk true [] z4 0]) wq := Sn.of R9 (n := 4) rfl hc9 (kNd.row_mono (by decide) hr9 fun i hi _ => ⟨by rcases hi with (hi | hi) | hi; exact hi; omega; (simp at hi; omega), rfl⟩) hw6
  have HR6 : Hid _ := Rq
  have hmo6 : wq.heap[w.heap.size + 1 + 1 + 1]? = some (.cells cs 110 (0, 0)) := Rq.more
  have cm : ∀ i, wq.cell? ⟨w.heap.size + 1 + 1 + 1, i, none⟩ = cs[i]? := fun i => by simp [World.cell?, hmo6]
  have fz : ∀ i, wq.frozen? ⟨w.heap.size + 1 + 1 + 1, i, none⟩ = false := fun i => by simp [World.frozen?, hmo6]
  clear hw6 Rq hfo hr9 hb9 R1 R2 R3 R4 R5 R9 R0 hG2 hG3 hG5 hb4 hb6 hro hr21 hr31 hr51 s1 R6 d0 d1 d2 d3 zz0 zz1 zz2 zz3
  have HM6 : Hid _ := hmo6
  clear hmo6
  have hiaM : ∀ (M : Array Value), M.size = cs.size → (Tryz.prog.info? 110).map (·.size) = some M.size := fun M h => by rw [h]; exact hia
  clear hia hzs hone HW1
  have HIB : Hid (∀ W : World, Calls Tryz.prog 110 #[.agg (((((((cs.setIfInBounds 11 (.int .i64 0)).setIfInBounds 12 (.int .u32 0)).setIfInBounds 13 (.int .i64 0)).setIfInBounds 14 (.string ⟨#[]⟩)).setIfInBounds 15 (.slice none 0 0)).setIfInBounds 16 (.slice none 0 0)).setIfInBounds 17 (.slice none 0 0))] W fun e w' => e = .returned (.bool (bareB name sec len fr to (.mk k1 n1 o1 m1 l1) .none [] [])) ∧ Below W.heap.size W w') := fun W => isBare_any _ 6 name sec len fr to k1 n1 o1 m1 l1 0 0 0 [] [] [] [] a1 c1 none 0 none 0 none 0 W (by rw [HCS.out]; simp only [smA, List.setIfInBounds_toArray, List.set_cons_zero, List.set_cons_succ]; rfl)
  have hR : ∀ W : World, Hid ((((((((wq.setCell ⟨w.heap.size + 1 + 1 + 1, 11, none⟩ (.int .i64 0)).setCell ⟨w.heap.size + 1 + 1 + 1, 12, none⟩ (.int .u32 0)).setCell ⟨w.heap.size + 1 + 1 + 1, 13, none⟩ (.int .i64 0)).setCell ⟨w.heap.size + 1 + 1 + 1, 14, none⟩ (.string ⟨#[]⟩)).setCell ⟨w.heap.size + 1 + 1 + 1, 15, none⟩ (.slice none 0 0)).setCell ⟨w.heap.size + 1 + 1 + 1, 16, none⟩ (.slice none 0 0)).setCell ⟨w.heap.size + 1 + 1 + 1, 17, none⟩ (.slice none 0 0)) = W) → Sm5 w (fm [105, 102] [.mk il2 wd2 ks2 p2, .mk true [] z3 0, .mk true [] z4 0]) W := fun W hW => by
    have e := hW.out
    subst e
    exact Sm5.of HR6.out (fun i hi => by rw [setCell_other hi, setCell_other hi, setCell_other hi, setCell_other hi, setCell_other hi, setCell_other hi, setCell_other hi]) (bl_set (bl_set (bl_set5 HR6.out.bl _ _ _ _ _ _ _ _ _ _ _ (by omega)) _ _ _ (by omega)) _ _ _ (by omega))
  go_wp2_with (first | (refine wpList_load_row rfl 110 (.tmp 4) rfl (w.heap.size + 1 + 1 + 1) rfl 110 (((((((cs.setIfInBounds 11 (.int .i64 0)).setIfInBounds 12 (.int .u32 0)).setIfInBounds 13 (.int .i64 0)).setIfInBounds 14 (.string ⟨#[]⟩)).setIfInBounds 15 (.slice none 0 0)).setIfInBounds 16 (.slice none 0 0)).setIfInBounds 17 (.slice none 0 0)) (0, 0) _ ?_ Tryz.underlying110 rfl ?_ ?_; (exact (set_over (set_over (set5 HM6.out)))); (exact hiaM _ (by simp)); refine Hid.out ?_))
  generalize hw7 : (((((((wq.setCell ⟨w.heap.size + 1 + 1 + 1, 11, none⟩ (.int .i64 0)).setCell ⟨w.heap.size + 1 + 1 + 1, 12, none⟩ (.int .u32 0)).setCell ⟨w.heap.size + 1 + 1 + 1, 13, none⟩ (.int .i64 0)).setCell ⟨w.heap.size + 1 + 1 + 1, 14, none⟩ (.string ⟨#[]⟩)).setCell ⟨w.heap.size + 1 + 1 + 1, 15, none⟩ (.slice none 0 0)).setCell ⟨w.heap.size + 1 + 1 + 1, 16, none⟩ (.slice none 0 0)).setCell ⟨w.heap.size + 1 + 1 + 1, 17, none⟩ (.slice none 0 0)) = w7
  have HR7 := hR w7 hw7
  clear hw7 hR cm fz HM6 hiaM HR6
  refine Lib.hid ?_
  cases hbr : bareB name sec len fr to (.mk k1 n1 o1 m1 l1) .none [] [] with
  | false =>
    rw [hbr] at HIB
    have HF : Hid (shS (.mk 6 name sec len fr to (.mk k1 n1 o1 m1 l1) (.mk k2 n2 o2 m2 l2) body els) = none) := by
      show _ = _
      rw [shS, if_neg (by omega), if_neg (by omega), if_neg (by omega), if_neg (by omega), if_neg (by omega), if_pos rfl, hs2, hs3, hs4]
      simp only [Option.bind_some]
      rw [if_neg fun h => by rw [bare_if h] at hbr; cases hbr]
    clear hbr
    go_wp2_with (first | (go_at_call 110; refine (HIB.out _).mono ?_; rintro e w8 ⟨rfl, hb8⟩) | (go_at_call 75; refine (must_no _).mono ?_; rintro e w9 ⟨rfl, rfl⟩))
    exact ⟨rfl, .ofBad HF.out (bl_then HR7.bl hb8)⟩
  | true =>
    rw [hbr] at HIB
    have HF : Hid (shS (.mk 6 name sec len fr to (.mk k1 n1 o1 m1 l1) (.mk k2 n2 o2 m2 l2) body els) = some (fm [105, 102] [.mk il2 wd2 ks2 p2, .mk true [] z3 0, .mk true [] z4 0])) := by
      show _ = _
      rw [shS, if_neg (by omega), if_neg (by omega), if_neg (by omega), if_neg (by omega), if_neg (by omega), if_pos rfl, hs2, hs3, hs4]
      simp only [Option.bind_some]
      rw [if_pos (if_bare hbr)]; rfl
    clear hbr
    go_wp2_with (first | (go_at_call 110; refine (HIB.out _).mono ?_; rintro e w8 ⟨rfl, hb8⟩; have R8 := HR7.on hb8; refine Hid.out ?_))
    refine Lib.hid ?_
    obtain ⟨il, wd, ks, p, na, nc, hnd, hno, hnc, hnr⟩ := R8.node
    rw [hnd] at HF
    have hres8 := R8.res
    have HB8 : Hid (Below w.heap.size w w8) := R8.bl
    have HNR : Hid _ := hnr
    have nlt : w.heap.size + 1 + 1 < w8.heap.size := lt_of_some hno
    obtain ⟨e0, e1, e2, e3, f0, f1, f2, f3⟩ := nd_free (b := w.heap.size + 1 + 1) hno
    obtain ⟨d0, d1, d2, d3, g0, g1, g2, g3⟩ := nd_free hres8
    clear hb8 HR7 R8 hno hnd hnr HIB
    go_wp2_with (first | (go_at_call 75; refine (must_yes _).mono ?_; rintro e w9 ⟨rfl, hq⟩; have hq' := hq.symm; subst hq'))
    exact bodyPost_ret_by (results_row Tryz.results89 rfl (load_nd (set4c hres8) rfl)) rfl (.ofOk HF.out (bl_set4 HB8.out _ _ _ _ _ (by omega)) ⟨na, nc, rfl, hnc, kNd.row_mono (by decide) HNR.out fun i hi _ => ⟨by omega, set4o (by omega)⟩⟩)
end Go.Proofs.YtbpdhegfdmppgaaGreatDoor.Sh
