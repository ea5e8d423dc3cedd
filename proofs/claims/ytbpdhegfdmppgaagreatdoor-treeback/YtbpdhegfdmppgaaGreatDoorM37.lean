/- Texts of this proof, put together: STold, SNodes. -/
import Derived.Test.YtbpdhegfdmppgaaGreatDoorM29
import Derived.Recover

/- CONTRACT of told. -/
namespace Go.Proofs.YtbpdhegfdmppgaaGreatDoor.Sh
open Go.ChangeShapes Go.WideShapes Go.ChangeAt Go.RowKit

theorem run_assert (v : Value) (xT : TypeId) (w : World) : (Instr.typeAssert (.iface 94 v) xT 94 false).run Tryz.prog w = .ok v w := by
  simp [Instr.typeAssert, run_underlying Tryz.underlying94]
set_option maxRecDepth 100000 in
theorem told_any (c p : Int) (w : World) : Calls Tryz.prog 28 #[.iface 94 (.agg #[.int .i64 c, .int .i64 p])] w fun e w' => e = .returned (.tuple #[.int .i64 c, .int .i64 p]) ∧ Below w.heap.size w w' := by
  have hta := fun xT => run_assert (.agg #[.int .i64 c, .int .i64 p]) xT w
  go_enter Tryz.func28, Tryz.ntmps28
  go_wp2_with fail
  go_region
  go_wp2_with fail
  go_ret2
  exact ⟨rfl, bl_then (bl_alloc (Below.refl _ _) _) (drew_bl _)⟩
set_option maxRecDepth 100000 in
theorem catch_panics (pe : Nat) (c p : Int) (older : List PanicEntry) (w : World) (h1 : ∃ x t, w.heap[pe]? = some (.cells #[x] t (0, 0))) :
    CallsD Tryz.prog 39 #[.pointer (some ⟨pe, 0, none⟩)] (.panicking ({ v := .iface 94 (.agg #[.int .i64 c, .int .i64 p]), recovered := false } :: older)) w fun e u' w' =>
      e = .returned (.tuple #[]) ∧ u' = .panicking ({ v := .iface 94 (.agg #[.int .i64 c, .int .i64 p]), recovered := true } :: older) ∧ ∃ w1, Below w.heap.size w w1 ∧ w' = w1.setCell ⟨pe, 0, none⟩ (.int .i64 c) := by
  refine callsD_of_wpS Tryz.func39 rfl fun c₀ cs hu => ?_
  apply wpS_seq
  apply wpS_region
  simp [wpOpsS, go_sem, recoverD, hu, Tryz.ntmps39, Exit.thenS, show (Array.replicate 9 undef : Array Value) = #[undef, undef, undef, undef, undef, undef, undef, undef, undef] from rfl]
  refine wpS_of_wp ?_
  obtain ⟨x1, t1, hh1⟩ := h1
  have htd := told_any c p w
  go_wp2_with (first | (go_at_call 28; refine htd.mono ?_; rintro e w1 ⟨rfl, hb1⟩; refine Hid.out ?_))
  refine Lib.hid ?_
  have k1 : w1.heap[pe]? = some (.cells #[x1] t1 (0, 0)) := (hb1.block _ (lt_of_some hh1)).trans hh1
  have q1 : w1.cell? ⟨pe, 0, none⟩ = some x1 := by simp [World.cell?, k1]
  have f1 : w1.frozen? ⟨pe, 0, none⟩ = false := by simp [World.frozen?, k1]
  go_wp2_with fail
  exact ⟨rfl, _, rfl, _, by simp [results, Tryz.results39], rfl, rfl, w1, hb1, rfl⟩
/-- Nothing was thrown: nothing is done. -/
theorem catch_none (pe : Nat) (w : World) : CallsD Tryz.prog 39 #[.pointer (some ⟨pe, 0, none⟩)] .returning w fun e u' w' => e = .returned (.tuple #[]) ∧ u' = .returning ∧ w' = w := by
  refine callsD_of_wpS Tryz.func39 rfl fun c₀ cs hu => ?_
  apply wpS_seq
  apply wpS_region
  simp [wpOpsS, go_sem, recoverD, hu, Tryz.ntmps39, Exit.thenS, show (Array.replicate 9 undef : Array Value) = #[undef, undef, undef, undef, undef, undef, undef, undef, undef] from rfl]
  refine wpS_of_wp ?_
  go_wp2_with fail
  cases c₀
  simp_all [bodyPostS, results, Tryz.results39]
end Go.Proofs.YtbpdhegfdmppgaaGreatDoor.Sh

/- CONTRACT of tree.Nodes, for all units. -/
namespace Go.Proofs.YtbpdhegfdmppgaaGreatDoor.Sh
open Go.ChangeShapes Go.WideShapes Go.ChangeAt Go.RowKit

theorem UnOk.on {B : Nat} {S : Nat → Prop} {w w1 : World} {a1 : Option Addr} {imports : List (List UInt8)} {a2 : Option Addr} {funcs : List Fu} (h : UnOk B S w a1 imports a2 funcs) (hb : Below w.heap.size w w1) : UnOk B S w1 a1 imports a2 funcs :=
  ⟨h.glob.below hb, kStr.row_mono (T := S) (by decide) h.r1 fun i hi hlt => ⟨hi, hb.block i hlt⟩, kFu.row_mono (T := S) (by decide) h.r2 fun i hi hlt => ⟨hi, hb.block i hlt⟩, h.ok⟩
set_option maxRecDepth 100000 in
set_option maxHeartbeats 2000000 in
theorem nodes_none {B : Nat} {S : Nat → Prop} (name : List UInt8) (imports : List (List UInt8)) (funcs : List Fu) (a1 : Option Addr) (c1 : Nat) (a2 : Option Addr) (c2 : Nat) (w : World) (hO : UnOk B S w a1 imports a2 funcs) (hs : shU ⟨name, imports, funcs⟩ = none) :
    Calls Tryz.prog 15 #[.agg #[.string (bs name), .slice a1 imports.length c1, .slice a2 funcs.length c2]] w fun e w' => e = .returned (.tuple #[.slice none 0 0, .int .i64 6]) ∧ Below w.heap.size w w' := by
  have hmf : ∀ (fn : Fn) (first cap : Array Value) (w : World), (Instr.makeFunc fn first cap).run Tryz.prog w = .ok (.func fn first cap) w := fun _ _ _ _ => rfl
  have HU : Hid (∀ w1, Below w.heap.size w w1 → Calls Tryz.prog 40 #[.agg #[.string (bs name), .slice a1 imports.length c1, .slice a2 funcs.length c2]] w1 (Shows kNd.rd w1 none)) := fun w1 hb => by
    rw [← hs]
    exact unit_any _ name imports funcs a1 c1 a2 c2 w1 rfl rfl rfl (hO.on hb)
  have hb0 : ∀ o1 o2, Below w.heap.size w ((w.alloc o1).alloc o2) := fun o1 o2 => bl_two w o1 o2
  clear hO hs
  go_enter_defers Tryz.func15, Tryz.ntmps15
  go_wp2_with (first | (go_at_call 40; refine (HU.out _ (hb0 _ _)).mono ?_; rintro e w1 hG; obtain rfl := hG.bad rfl))
  have hb1 := hG.below
  have k1 : ∃ x t, w1.heap[w.heap.size + 1]? = some (.cells #[x] t (0, 0)) := ⟨_, _, (hb1.block _ (by simp)).trans (at_two w _ _).2⟩
  have B1 : Below w.heap.size w w1 := bl_then (hb0 _ _) hb1
  have z1 : w.heap.size + 2 ≤ w1.heap.size := by have := hb1.size; simpa using this
  refine leaves_cons (f := 39) (args := #[.pointer (some ⟨w.heap.size + 1, 0, none⟩)]) (by simp) (by simp [go_sem]) ?_
  refine (catch_panics (w.heap.size + 1) 6 0 [] _ k1).mono ?_
  rintro e u' w'' ⟨rfl, rfl, w2, hb2, rfl⟩
  obtain ⟨x, t, hx⟩ := k1
  have k2 : w2.heap[w.heap.size + 1]? = some (.cells #[x] t (0, 0)) := (hb2.block _ (by omega)).trans hx
  have q2 : (w2.setCell ⟨w.heap.size + 1, 0, none⟩ (.int .i64 6)).cell? ⟨w.heap.size + 1, 0, none⟩ = some (.int .i64 6) := by simp [World.cell?, World.setCell, Array.getElem?_modify, k2]
  have B2 : Below w.heap.size w (w2.setCell ⟨w.heap.size + 1, 0, none⟩ (.int .i64 6)) := (bl_then B1 hb2).setCell (by simp) _
  simp [Leaves, settle, results, Tryz.results15, go_sem, q2, B2]
set_option maxRecDepth 100000 in
set_option maxHeartbeats 2000000 in
theorem nodes_some {B : Nat} {S : Nat → Prop} (name : List UInt8) (imports : List (List UInt8)) (funcs : List Fu) (a1 : Option Addr) (c1 : Nat) (a2 : Option Addr) (c2 : Nat) (w : World) (hO : UnOk B S w a1 imports a2 funcs) (l : List Nd) (hs : shU ⟨name, imports, funcs⟩ = some l) :
    Calls Tryz.prog 15 #[.agg #[.string (bs name), .slice a1 imports.length c1, .slice a2 funcs.length c2]] w fun e w' => (∃ v, e = .returned (.tuple #[v, .int .i64 0]) ∧ kNd.rd w' (fun b => w.heap.size ≤ b) v l) ∧ Below w.heap.size w w' := by
  have hmf : ∀ (fn : Fn) (first cap : Array Value) (w : World), (Instr.makeFunc fn first cap).run Tryz.prog w = .ok (.func fn first cap) w := fun _ _ _ _ => rfl
  have HU : Hid (∀ w1, Below w.heap.size w w1 → Calls Tryz.prog 40 #[.agg #[.string (bs name), .slice a1 imports.length c1, .slice a2 funcs.length c2]] w1 (Shows kNd.rd w1 (some l))) := fun w1 hb => by
    rw [← hs]
    exact unit_any _ name imports funcs a1 c1 a2 c2 w1 rfl rfl rfl (hO.on hb)
  have hb0 : ∀ o1 o2, Below w.heap.size w ((w.alloc o1).alloc o2) := fun o1 o2 => bl_two w o1 o2
  clear hO hs
  go_enter_defers Tryz.func15, Tryz.ntmps15
  go_wp2_with (first | (go_at_call 40; refine (HU.out _ (hb0 _ _)).mono ?_; rintro e w1 hG; obtain ⟨v1, rfl, a3, k3, rfl, hr3, hc3⟩ := hG.ok _ rfl; refine Hid.out ?_))
  refine Lib.hid ?_
  have hb1 := hG.below
  have z1 : w.heap.size + 2 ≤ w1.heap.size := by have := hb1.size; simpa using this
  have B1 : Below w.heap.size w w1 := bl_then (hb0 _ _) hb1
  obtain ⟨x, t, hx⟩ : ∃ x t, w1.heap[w.heap.size + 1]? = some (.cells #[x] t (0, 0)) := ⟨_, _, (hb1.block _ (by simp)).trans (at_two w _ _).2⟩
  have HR : Hid (kNd.row w1 (fun b => w.heap.size + 2 ≤ b) a3 l) := kNd.row_mono (by decide) hr3 fun i hi _ => ⟨by simpa using hi, rfl⟩
  have q1 : w1.cell? ⟨w.heap.size + 1, 0, none⟩ = some x := by simp [World.cell?, hx]
  have f1 : w1.frozen? ⟨w.heap.size + 1, 0, none⟩ = false := by simp [World.frozen?, hx]
  clear hG hr3 hb1
  go_wp2_with fail
  have q2 : (w1.setCell ⟨w.heap.size + 1, 0, none⟩ (.int .i64 0)).cell? ⟨w.heap.size + 1, 0, none⟩ = some (.int .i64 0) := by simp [World.cell?, World.setCell, Array.getElem?_modify, hx]
  have B2 : Below w.heap.size w (w1.setCell ⟨w.heap.size + 1, 0, none⟩ (.int .i64 0)) := B1.setCell (by simp) _
  have HV : kNd.rd (w1.setCell ⟨w.heap.size + 1, 0, none⟩ (.int .i64 0)) (fun b => w.heap.size ≤ b) (.slice a3 l.length k3) l := ⟨a3, k3, rfl, kNd.row_mono (by decide) HR.out fun i hi _ => ⟨by omega, by simp [World.setCell, Array.getElem?_modify]; omega⟩, hc3⟩
  refine leaves_cons (f := 39) (args := #[.pointer (some ⟨w.heap.size + 1, 0, none⟩)]) (by simp) (by simp [go_sem]) ?_
  refine (catch_none (w.heap.size + 1) _).mono ?_
  rintro e u' w'' ⟨rfl, rfl, rfl⟩
  simp [Leaves, settle, results, Tryz.results15, go_sem, q2, B2, HV]
end Go.Proofs.YtbpdhegfdmppgaaGreatDoor.Sh
