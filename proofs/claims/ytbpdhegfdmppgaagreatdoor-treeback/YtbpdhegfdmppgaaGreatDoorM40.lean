/- Texts of this proof, put together: LUnit. -/
import Derived.Test.YtbpdhegfdmppgaaGreatDoorM39
import Derived.Recover

/- CONTRACTS of told, of tree.Unit's deferred closure, and of tree.Unit, for all nodes. -/
namespace Go.Proofs.YtbpdhegfdmppgaaGreatDoor
open Go.ChangeShapes Go.WideShapes Go.ChangeAt Go.RowKit

theorem run_assert (v : Value) (xT : TypeId) (w : World) : (Instr.typeAssert (.iface 94 v) xT 94 false).run Tryz.prog w = .ok v w := by
  simp [Instr.typeAssert, run_underlying Tryz.underlying94]
set_option maxRecDepth 100000 in
theorem told_any (c p : Int) (w : World) : Calls Tryz.prog 28 #[.iface 94 (.agg #[.int .i64 c, .int .i64 p])] w fun e w' => e = .returned (.tuple #[.int .i64 c, .int .i64 p]) ∧ Below w.heap.size w w' := by
  have hta := fun xT => run_assert (.agg #[.int .i64 c, .int .i64 p]) xT w
  go_enter Tryz.func28, Tryz.ntmps28
  go_wp2_with fail
  go_region
  go_wp2_with fail
  go_ret2
  exact ⟨rfl, Below.then (one_below w _) (drew_below _)⟩
set_option maxRecDepth 100000 in
theorem catch_panics (pe pa : Nat) (c p : Int) (older : List PanicEntry) (w : World) (h1 : ∃ x t, w.heap[pe]? = some (.cells #[x] t (0, 0))) (h2 : ∃ x t, w.heap[pa]? = some (.cells #[x] t (0, 0))) (hne : pe ≠ pa) :
    CallsD Tryz.prog 27 #[.pointer (some ⟨pe, 0, none⟩), .pointer (some ⟨pa, 0, none⟩)] (.panicking ({ v := .iface 94 (.agg #[.int .i64 c, .int .i64 p]), recovered := false } :: older)) w fun e u' w' =>
      e = .returned (.tuple #[]) ∧ u' = .panicking ({ v := .iface 94 (.agg #[.int .i64 c, .int .i64 p]), recovered := true } :: older) ∧ ∃ w1, Below w.heap.size w w1 ∧ w' = (w1.setCell ⟨pe, 0, none⟩ (.int .i64 c)).setCell ⟨pa, 0, none⟩ (.int .i64 p) := by
  refine callsD_of_wpS Tryz.func27 rfl fun c₀ cs hu => ?_
  apply wpS_seq
  apply wpS_region
  simp [wpOpsS, go_sem, recoverD, hu, Tryz.ntmps27, Exit.thenS]
  refine wpS_of_wp ?_
  obtain ⟨x1, t1, hh1⟩ := h1
  obtain ⟨x2, t2, hh2⟩ := h2
  have htd := told_any c p w
  go_wp2_with (first | (go_at_call 28; refine htd.mono ?_; rintro e w1 ⟨rfl, hb1⟩; refine Hid.out ?_))
  refine Lib.hid ?_
  have k1 := below_keep hh1 hb1
  have k2 := below_keep hh2 hb1
  have q1 : w1.cell? ⟨pe, 0, none⟩ = some x1 := by simp [World.cell?, k1]
  have q2 : w1.cell? ⟨pa, 0, none⟩ = some x2 := by simp [World.cell?, k2]
  have f1 : w1.frozen? ⟨pe, 0, none⟩ = false := by simp [World.frozen?, k1]
  have f2 : w1.frozen? ⟨pa, 0, none⟩ = false := by simp [World.frozen?, k2]
  have hne' : ¬ pa = pe := fun e => hne e.symm
  go_wp2_with fail
  exact ⟨rfl, _, rfl, _, by simp [results, Tryz.results27], rfl, rfl, w1, hb1, rfl⟩
/-- Nothing was thrown: nothing is done. -/
theorem catch_none (pe pa : Nat) (w : World) : CallsD Tryz.prog 27 #[.pointer (some ⟨pe, 0, none⟩), .pointer (some ⟨pa, 0, none⟩)] .returning w fun e u' w' => e = .returned (.tuple #[]) ∧ u' = .returning ∧ w' = w := by
  refine callsD_of_wpS Tryz.func27 rfl fun c₀ cs hu => ?_
  apply wpS_seq
  apply wpS_region
  simp [wpOpsS, go_sem, recoverD, hu, Tryz.ntmps27, Exit.thenS]
  refine wpS_of_wp ?_
  go_wp2_with fail
  cases c₀
  simp_all [bodyPostS, results, Tryz.results27]
theorem at_three (w : World) (o1 o2 o3 : Obj) : (((w.alloc o1).alloc o2).alloc o3).heap[w.heap.size]? = some o1 ∧ (((w.alloc o1).alloc o2).alloc o3).heap[w.heap.size + 1]? = some o2 ∧ (((w.alloc o1).alloc o2).alloc o3).heap[w.heap.size + 2]? = some o3 := by
  exact ⟨at_old (two_at w o1 o2).1, at_old (two_at w o1 o2).2, by have := (two_at (w.alloc o1) o2 o3).2; simpa [Nat.add_assoc] using this⟩
theorem bl_three (w : World) (o1 o2 o3 : Obj) : Below w.heap.size w (((w.alloc o1).alloc o2).alloc o3) := Below.then (Below.then (one_below _ _) (one_below _ _)) (one_below _ _)
theorem set_else {W : World} {k b o : Nat} {v : Value} (h : k ≠ b) : (W.setCell ⟨k, o, none⟩ v).heap[b]? = W.heap[b]? := by rw [setCell_other (fun e => h e.symm)]
set_option maxRecDepth 100000 in
set_option maxHeartbeats 2000000 in
theorem unit_bad {B : Nat} {w : World} (l : List Nd) (a : Option Addr) (c : Nat) (hg : Glob B w) (hw : wokL l) (hrow : Row (fun b => b < B) w a l) (hc : l.length ≤ c) (hs : szL l ≤ 1000000000) (x y : Int) (h : rdUnit l = .bad x y) :
    Calls Tryz.prog 11 #[.slice a l.length c] w fun e w' => e = .returned (.tuple #[.agg #[.string ⟨#[]⟩, .slice none 0 0, .slice none 0 0], .int .i64 x, .int .i64 y]) ∧ Below w.heap.size w w' := by
  have hmf : ∀ (fn : Fn) (first cap : Array Value) (w : World), (Instr.makeFunc fn first cap).run Tryz.prog w = .ok (.func fn first cap) w := fun _ _ _ _ => rfl
  have HU : Hid (∀ w1, Below w.heap.size w w1 → Calls Tryz.prog 29 #[.slice a l.length c] w1 (Gives UnV w1 (.bad x y))) := fun w1 hb => by
    rw [← h]
    exact readUnit_any l a c (hg.below hb) hw (hrow.keep hb) hc hs
  have hb0 : ∀ o1 o2 o3, Below w.heap.size w (((w.alloc o1).alloc o2).alloc o3) := bl_three w
  clear hg hw hrow hc hs h
  go_enter_defers Tryz.func11, Tryz.ntmps11
  go_wp2_with (first | (go_at_call 29; refine (HU.out _ (hb0 _ _ _)).mono ?_; rintro e w1 hG; obtain rfl := hG.bad _ _ rfl))
  have hb1 := hG.below
  have k0 := below_keep (at_three w _ _ _).1 hb1
  have k1 := below_keep (at_three w _ _ _).2.1 hb1
  have k2 := below_keep (at_three w _ _ _).2.2 hb1
  have B1 : Below w.heap.size w w1 := Below.then (hb0 _ _ _) hb1
  have z1 : w.heap.size + 3 ≤ w1.heap.size := by have := hb1.size; simpa using this
  refine leaves_cons (f := 27) (args := #[.pointer (some ⟨w.heap.size + 1, 0, none⟩), .pointer (some ⟨w.heap.size + 2, 0, none⟩)]) (by simp) (by simp [go_sem]) ?_
  refine (catch_panics (w.heap.size + 1) (w.heap.size + 2) x y [] _ ⟨_, _, k1⟩ ⟨_, _, k2⟩ (by omega)).mono ?_
  rintro e u' w'' ⟨rfl, rfl, w2, hb2, rfl⟩
  have j0 := below_keep k0 hb2
  have j1 := below_keep k1 hb2
  have j2 := below_keep k2 hb2
  have B2 : Below w.heap.size w ((w2.setCell ⟨w.heap.size + 1, 0, none⟩ (.int .i64 x)).setCell ⟨w.heap.size + 2, 0, none⟩ (.int .i64 y)) := ((Below.then B1 hb2).setCell (by simp) _).setCell (by simp) _
  have i0 : ((w2.setCell ⟨w.heap.size + 1, 0, none⟩ (.int .i64 x)).setCell ⟨w.heap.size + 2, 0, none⟩ (.int .i64 y)).heap[w.heap.size]? = some (.cells #[.string ⟨#[]⟩, .slice none 0 0, .slice none 0 0] 30 (0, 0)) := by rw [set_else (by omega), set_else (by omega)]; exact j0
  have i1 : ((w2.setCell ⟨w.heap.size + 1, 0, none⟩ (.int .i64 x)).setCell ⟨w.heap.size + 2, 0, none⟩ (.int .i64 y)).cell? ⟨w.heap.size + 1, 0, none⟩ = some (.int .i64 x) := by
    rw [World.cell?_of_block (w := w2.setCell ⟨w.heap.size + 1, 0, none⟩ (.int .i64 x)) (set_else (k := w.heap.size + 2) (b := w.heap.size + 1) (by omega))]
    simp [World.cell?, World.setCell, Array.getElem?_modify, j1]
  have i2 : ((w2.setCell ⟨w.heap.size + 1, 0, none⟩ (.int .i64 x)).setCell ⟨w.heap.size + 2, 0, none⟩ (.int .i64 y)).cell? ⟨w.heap.size + 2, 0, none⟩ = some (.int .i64 y) := by
    have j2' : (w2.setCell ⟨w.heap.size + 1, 0, none⟩ (.int .i64 x)).heap[w.heap.size + 2]? = some (.cells #[.int .i64 0] 3 (0, 0)) := by rw [set_else (by omega)]; exact j2
    generalize w2.setCell ⟨w.heap.size + 1, 0, none⟩ (.int .i64 x) = w3 at j2' ⊢
    simp [World.cell?, World.setCell, Array.getElem?_modify, j2']
  generalize (w2.setCell ⟨w.heap.size + 1, 0, none⟩ (.int .i64 x)).setCell ⟨w.heap.size + 2, 0, none⟩ (.int .i64 y) = W at B2 i0 i1 i2 ⊢
  have c0 : W.cell? ⟨w.heap.size, 0, none⟩ = some (.string ⟨#[]⟩) := by simp [World.cell?, i0]
  have c1 : W.cell? ⟨w.heap.size, 1, none⟩ = some (.slice none 0 0) := by simp [World.cell?, i0]
  have c2 : W.cell? ⟨w.heap.size, 2, none⟩ = some (.slice none 0 0) := by simp [World.cell?, i0]
  simp [Leaves, settle, results, Tryz.results11, go_sem, i1, i2, c0, c1, c2, B2]
set_option maxRecDepth 100000 in
set_option maxHeartbeats 2000000 in
theorem unit_good {B : Nat} {w : World} (l : List Nd) (a : Option Addr) (c : Nat) (hg : Glob B w) (hw : wokL l) (hrow : Row (fun b => b < B) w a l) (hc : l.length ≤ c) (hs : szL l ≤ 1000000000) (u : Un) (h : rdUnit l = .ok u) :
    Calls Tryz.prog 11 #[.slice a l.length c] w fun e w' => (∃ v, e = .returned (.tuple #[v, .int .i64 0, .int .i64 (-1)]) ∧ UnV w' (fun b => w.heap.size ≤ b) v u) ∧ Below w.heap.size w w' := by
  have hmf : ∀ (fn : Fn) (first cap : Array Value) (w : World), (Instr.makeFunc fn first cap).run Tryz.prog w = .ok (.func fn first cap) w := fun _ _ _ _ => rfl
  have HU : Hid (∀ w1, Below w.heap.size w w1 → Calls Tryz.prog 29 #[.slice a l.length c] w1 (Gives UnV w1 (.ok u))) := fun w1 hb => by
    rw [← h]
    exact readUnit_any l a c (hg.below hb) hw (hrow.keep hb) hc hs
  have hb0 : ∀ o1 o2 o3, Below w.heap.size w (((w.alloc o1).alloc o2).alloc o3) := bl_three w
  clear hg hw hrow hc hs h
  go_enter_defers Tryz.func11, Tryz.ntmps11
  go_wp2_with (first | (go_at_call 29; refine (HU.out _ (hb0 _ _ _)).mono ?_; rintro e w1 hG; obtain ⟨v1, rfl, a1, c1, a2, c2, rfl, l1, l2, r1, r2⟩ := hG.ok _ rfl; refine Hid.out ?_))
  refine Lib.hid ?_
  have hb1 := hG.below
  have k0 := below_keep (at_three w _ _ _).1 hb1
  have k1 := below_keep (at_three w _ _ _).2.1 hb1
  have k2 := below_keep (at_three w _ _ _).2.2 hb1
  have B1 : Below w.heap.size w w1 := Below.then (hb0 _ _ _) hb1
  have z1 : w.heap.size + 3 ≤ w1.heap.size := by have := hb1.size; simpa using this
  have HR1 : Hid (kStr.row w1 (fun b => w.heap.size + 3 ≤ b) a1 u.imports) := kStr.row_mono (by decide) r1 fun i hi _ => ⟨by simpa using hi, rfl⟩
  have HR2 : Hid (kFu.row w1 (fun b => w.heap.size + 3 ≤ b) a2 u.funcs) := kFu.row_mono (by decide) r2 fun i hi _ => ⟨by simpa using hi, rfl⟩
  clear hG r1 r2 hb1 HU hb0
  have p0 : ∀ i, w1.cell? ⟨w.heap.size, i, none⟩ = (#[.string ⟨#[]⟩, .slice none 0 0, .slice none 0 0] : Array Value)[i]? := fun i => by simp [World.cell?, k0]
  have p1 : w1.cell? ⟨w.heap.size + 1, 0, none⟩ = some (.int .i64 0) := by simp [World.cell?, k1]
  have p2 : w1.cell? ⟨w.heap.size + 2, 0, none⟩ = some (.int .i64 0) := by simp [World.cell?, k2]
  have f0 : ∀ i, w1.frozen? ⟨w.heap.size, i, none⟩ = false := fun i => by simp [World.frozen?, k0]
  have f1 : w1.frozen? ⟨w.heap.size + 1, 0, none⟩ = false := by simp [World.frozen?, k1]
  have f2 : w1.frozen? ⟨w.heap.size + 2, 0, none⟩ = false := by simp [World.frozen?, k2]
  go_wp2_with fail
  clear p0 p1 p2 f0 f1 f2
  obtain ⟨w2, hw2⟩ : ∃ w2, (((w1.setCell ⟨w.heap.size, 0, none⟩ (.string (bs u.name))).setCell ⟨w.heap.size, 1, none⟩ (.slice a1 u.imports.length c1)).setCell ⟨w.heap.size, 2, none⟩ (.slice a2 u.funcs.length c2)) = w2 := ⟨_, rfl⟩
  have B2 : Below w.heap.size w w2 := by rw [← hw2]; exact ((B1.setCell (by simp) _).setCell (by simp) _).setCell (by simp) _
  have j0 : w2.heap[w.heap.size]? = some (.cells #[.string (bs u.name), .slice a1 u.imports.length c1, .slice a2 u.funcs.length c2] 30 (0, 0)) := by
    rw [← hw2]
    simp [World.setCell, Array.getElem?_modify, k0]
  have jo : ∀ b, b ≠ w.heap.size → w2.heap[b]? = w1.heap[b]? := fun b hb => by
    rw [← hw2, set_else (fun e => hb e.symm), set_else (fun e => hb e.symm), set_else (fun e => hb e.symm)]
  have j1 := (jo (w.heap.size + 1) (by omega)).trans k1
  have j2 := (jo (w.heap.size + 2) (by omega)).trans k2
  have HG : Hid _ := jo
  rw [hw2]
  clear hw2 jo k0 k1 k2
  have B3 : Below w.heap.size w ((w2.setCell ⟨w.heap.size + 1, 0, none⟩ (.int .i64 0)).setCell ⟨w.heap.size + 1 + 1, 0, none⟩ (.int .i64 (-1))) := (B2.setCell (by simp) _).setCell (by simp; omega) _
  have i0 : ((w2.setCell ⟨w.heap.size + 1, 0, none⟩ (.int .i64 0)).setCell ⟨w.heap.size + 1 + 1, 0, none⟩ (.int .i64 (-1))).heap[w.heap.size]? = some (.cells #[.string (bs u.name), .slice a1 u.imports.length c1, .slice a2 u.funcs.length c2] 30 (0, 0)) := by rw [set_else (by omega), set_else (by omega)]; exact j0
  have i1 : ((w2.setCell ⟨w.heap.size + 1, 0, none⟩ (.int .i64 0)).setCell ⟨w.heap.size + 1 + 1, 0, none⟩ (.int .i64 (-1))).cell? ⟨w.heap.size + 1, 0, none⟩ = some (.int .i64 0) := by
    rw [World.cell?_of_block (w := w2.setCell ⟨w.heap.size + 1, 0, none⟩ (.int .i64 0)) (set_else (k := w.heap.size + 1 + 1) (b := w.heap.size + 1) (by omega))]
    simp [World.cell?, World.setCell, Array.getElem?_modify, j1]
  have i2 : ((w2.setCell ⟨w.heap.size + 1, 0, none⟩ (.int .i64 0)).setCell ⟨w.heap.size + 1 + 1, 0, none⟩ (.int .i64 (-1))).cell? ⟨w.heap.size + 2, 0, none⟩ = some (.int .i64 (-1)) := by
    have j2' : (w2.setCell ⟨w.heap.size + 1, 0, none⟩ (.int .i64 0)).heap[w.heap.size + 2]? = some (.cells #[.int .i64 0] 3 (0, 0)) := by rw [set_else (by omega)]; exact j2
    generalize w2.setCell ⟨w.heap.size + 1, 0, none⟩ (.int .i64 0) = w3 at j2' ⊢
    simp [World.cell?, World.setCell, Array.getElem?_modify, j2']
  have io : ∀ b, w.heap.size + 3 ≤ b → ((w2.setCell ⟨w.heap.size + 1, 0, none⟩ (.int .i64 0)).setCell ⟨w.heap.size + 1 + 1, 0, none⟩ (.int .i64 (-1))).heap[b]? = w1.heap[b]? := fun b hb => by
    rw [set_else (by omega), set_else (by omega)]; exact HG.out b (by omega)
  generalize (w2.setCell ⟨w.heap.size + 1, 0, none⟩ (.int .i64 0)).setCell ⟨w.heap.size + 1 + 1, 0, none⟩ (.int .i64 (-1)) = W at B3 i0 i1 i2 io ⊢
  have HV : UnV W (fun b => w.heap.size ≤ b) (.agg #[.string (bs u.name), .slice a1 u.imports.length c1, .slice a2 u.funcs.length c2]) u := ⟨a1, c1, a2, c2, rfl, l1, l2, kStr.row_mono (by decide) HR1.out fun i hi _ => ⟨by omega, io i hi⟩, kFu.row_mono (by decide) HR2.out fun i hi _ => ⟨by omega, io i hi⟩⟩
  have d0 : W.cell? ⟨w.heap.size, 0, none⟩ = some (.string (bs u.name)) := by simp [World.cell?, i0]
  have d1 : W.cell? ⟨w.heap.size, 1, none⟩ = some (.slice a1 u.imports.length c1) := by simp [World.cell?, i0]
  have d2 : W.cell? ⟨w.heap.size, 2, none⟩ = some (.slice a2 u.funcs.length c2) := by simp [World.cell?, i0]
  refine leaves_cons (f := 27) (args := #[.pointer (some ⟨w.heap.size + 1, 0, none⟩), .pointer (some ⟨w.heap.size + 2, 0, none⟩)]) (by simp) (by simp [go_sem]) ?_
  refine (catch_none (w.heap.size + 1) (w.heap.size + 2) _).mono ?_
  rintro e u' w'' ⟨rfl, rfl, rfl⟩
  simp [Leaves, settle, results, Tryz.results11, go_sem, i1, i2, d0, d1, d2, B3, HV]
theorem unit_any {B : Nat} {w : World} (l : List Nd) (a : Option Addr) (c : Nat) (hg : Glob B w) (hw : wokL l) (hrow : Row (fun b => b < B) w a l) (hc : l.length ≤ c) (hs : szL l ≤ 1000000000) :
    Calls Tryz.prog 11 #[.slice a l.length c] w fun e w' => Below w.heap.size w w' ∧ (∀ u, rdUnit l = .ok u → ∃ v, e = .returned (.tuple #[v, .int .i64 0, .int .i64 (-1)]) ∧ UnV w' (fun b => w.heap.size ≤ b) v u) ∧ ∀ x y, rdUnit l = .bad x y → e = .returned (.tuple #[.agg #[.string ⟨#[]⟩, .slice none 0 0, .slice none 0 0], .int .i64 x, .int .i64 y]) := by
  cases h : rdUnit l with
  | ok u =>
    refine (unit_good l a c hg hw hrow hc hs u h).mono ?_
    rintro e w' ⟨hv, hb⟩
    exact ⟨hb, (fun u' e' => by cases e'; exact hv), (fun x y e' => by cases e')⟩
  | bad x y =>
    refine (unit_bad l a c hg hw hrow hc hs x y h).mono ?_
    rintro e w' ⟨hv, hb⟩
    exact ⟨hb, (fun u' e' => by cases e'), (fun x y e' => by cases e'; exact hv)⟩
end Go.Proofs.YtbpdhegfdmppgaaGreatDoor
