/- Texts of this proof, put together: SSameE, SSameS, SSameF. -/
import Derived.Test.YtbpdhegfdmppgaaGreatDoorM46
import Derived.Test.YtbpdhegfdmppgaaGreatDoorM24
import Derived.Test.YtbpdhegfdmppgaaGreatDoorM27
import Derived.Deep.RegionHeld3
import Derived.Test.YtbpdhegfdmppgaaGreatDoorM26
import Derived.Test.YtbpdhegfdmppgaaGreatDoorM29

/- CONTRACT of carlingref03.SameExpr at one expression that lies twice. -/
namespace Go.Proofs.YtbpdhegfdmppgaaGreatDoor.Sh
open Go.ChangeShapes Go.WideShapes Go.ChangeAt Go.RowKit

/-- What SameExpr reads in a round. -/
abbrev SaS (g h : Nat) (s1 s2 : Value) (b1 q1 b2 q2 : Nat) (k : Int) (m : Nat) (o : Int) (nm : List UInt8) (t1 t2 : Value) (w : World) : Prop :=
  w.cell? ⟨g, 4, none⟩ = some s1 ∧ w.cell? ⟨h, 4, none⟩ = some s2 ∧
  w.cell? ⟨b1, q1, none⟩ = some (.int .i64 k) ∧ w.cell? ⟨b1, q1 + 1, none⟩ = some (.int .u32 m) ∧ w.cell? ⟨b1, q1 + 2, none⟩ = some (.int .i64 o) ∧ w.cell? ⟨b1, q1 + 3, none⟩ = some (.string (bs nm)) ∧ w.cell? ⟨b1, q1 + 4, none⟩ = some t1 ∧
  w.cell? ⟨b2, q2, none⟩ = some (.int .i64 k) ∧ w.cell? ⟨b2, q2 + 1, none⟩ = some (.int .u32 m) ∧ w.cell? ⟨b2, q2 + 2, none⟩ = some (.int .i64 o) ∧ w.cell? ⟨b2, q2 + 3, none⟩ = some (.string (bs nm)) ∧ w.cell? ⟨b2, q2 + 4, none⟩ = some t2
theorem cell_up {a b : World} {k o : Nat} {v : Value} (h : Below a.heap.size a b) (hc : a.cell? ⟨k, o, none⟩ = some v) : b.cell? ⟨k, o, none⟩ = some v := by
  rw [World.cell?_of_block (w := a) (h.block k (World.block_lt_of_cell? a _ hc))]; exact hc
theorem SaS.on {g h : Nat} {s1 s2 : Value} {b1 q1 b2 q2 : Nat} {k : Int} {m : Nat} {o : Int} {nm : List UInt8} {t1 t2 : Value} {w w' : World} (H : SaS g h s1 s2 b1 q1 b2 q2 k m o nm t1 t2 w) (hb : Below w.heap.size w w') : SaS g h s1 s2 b1 q1 b2 q2 k m o nm t1 t2 w' := by
  obtain ⟨h1, h2, h3, h4, h5, h6, h7, h8, h9, h10, h11, h12⟩ := H
  exact ⟨cell_up hb h1, cell_up hb h2, cell_up hb h3, cell_up hb h4, cell_up hb h5, cell_up hb h6, cell_up hb h7, cell_up hb h8, cell_up hb h9, cell_up hb h10, cell_up hb h11, cell_up hb h12⟩
set_option maxRecDepth 100000 in
set_option maxHeartbeats 4000000 in
theorem sameEx_any (n : Nat) : n ≤ 1000000000 → ∀ (x : Ex), exW x ≤ n → ∀ (S T : Nat → Prop) (v1 v2 : Value) (w : World), ExV w S v1 x → ExV w T v2 x →
    Calls Tryz.prog 74 #[v1, v2] w fun e w' => e = .returned (.bool true) ∧ Below w.heap.size w w' := by
  induction n using Nat.strongRecOn with
  | _ n ih =>
    intro hn9 x hx S T v1 v2 w e1 e2
    obtain ⟨kind, m, op, nm, l⟩ := x
    obtain ⟨a1, c1, rfl, hc1, r1⟩ := e1
    obtain ⟨a2, c2, rfl, hc2, r2⟩ := e2
    rw [exW] at hx
    have hln := exWs_len l
    have hnm : (bs nm).toList == (bs nm).toList := by simp
    have hb0 := bl_two w (.cells #[.int .i64 kind, .int .u32 m, .int .i64 op, .string (bs nm), .slice a1 l.length c1] 45) (.cells #[.int .i64 kind, .int .u32 m, .int .i64 op, .string (bs nm), .slice a2 l.length c2] 45)
    obtain ⟨k1, k2⟩ := at_two w (.cells #[.int .i64 kind, .int .u32 m, .int .i64 op, .string (bs nm), .slice a1 l.length c1] 45) (.cells #[.int .i64 kind, .int .u32 m, .int .i64 op, .string (bs nm), .slice a2 l.length c2] 45)
    go_enter Tryz.func74, Tryz.ntmps74
    go_wp2_with fail
    generalize (w.alloc (.cells #[.int .i64 kind, .int .u32 m, .int .i64 op, .string (bs nm), .slice a1 l.length c1] 45)).alloc (.cells #[.int .i64 kind, .int .u32 m, .int .i64 op, .string (bs nm), .slice a2 l.length c2] 45) = w0 at hb0 k1 k2 ⊢
    have p1 : w0.cell? ⟨w.heap.size, 4, none⟩ = some (.slice a1 l.length c1) := by simp [World.cell?, k1]
    have p2 : w0.cell? ⟨w.heap.size + 1, 4, none⟩ = some (.slice a2 l.length c2) := by simp [World.cell?, k2]
    go_loopw [5] (fun i wr => ∃ k : Nat, k ≤ l.length ∧ i = .int .i64 k ∧ Below w0.heap.size w0 wr) (fun i _ => l.length - (intOf i).toNat)
    case atStart => exact ⟨0, Nat.zero_le _, rfl, Below.refl _ _⟩
    case round =>
      obtain ⟨k, hk, rfl, hbl⟩ := hrel
      have HB := Lib.hid hbl
      have pr1 := cell_up hbl p1
      have pr2 := cell_up hbl p2
      by_cases hlt : k < l.length
      · have b0 := bl_then hb0 hbl
        have R1 : kEx.row wr S a1 l := kEx.row_mono (by decide) ((exR_row _ _ _ _).1 r1) fun b hS hlt => ⟨hS, b0.block b hlt⟩
        have R2 : kEx.row wr T a2 l := kEx.row_mono (by decide) ((exR_row _ _ _ _).1 r2) fun b hS hlt => ⟨hS, b0.block b hlt⟩
        obtain ⟨b1, o1, kd, nn, oo, mm, ks, x1, d1, rfl, hx1, _, lt1, f0, f1, f2, f3, f4, g1, s1⟩ := ex_at R1 k hlt
        obtain ⟨b2, o2, kd', nn', oo', mm', ks', x2, d2, rfl, hx2, _, lt2, f0', f1', f2', f3', f4', g2, s2⟩ := ex_at R2 k hlt
        rw [hx1] at hx2
        injection hx2 with i1 i2 i3 i4 i5
        subst i1 i2 i3 i4 i5
        have hmem := exW_mem l l[k] (List.getElem_mem hlt)
        have hst : SaS w.heap.size (w.heap.size + 1) (.slice (some ⟨b1, o1, none⟩) l.length c1) (.slice (some ⟨b2, o2, none⟩) l.length c2) b1 (o1 + k * 5) b2 (o2 + k * 5) kd nn oo mm (.slice x1 ks.length d1) (.slice x2 ks.length d2) wr := ⟨pr1, pr2, f0, f1, f2, f3, f4, f0', f1', f2', f3', f4'⟩
        have B1 : Below wr.heap.size wr wr.drew := drew_bl wr
        have S1 := hst.on B1
        have hC : Hid (Calls Tryz.prog 74 #[.agg #[.int .i64 kd, .int .u32 nn, .int .i64 oo, .string (bs mm), .slice x1 ks.length d1], .agg #[.int .i64 kd, .int .u32 nn, .int .i64 oo, .string (bs mm), .slice x2 ks.length d2]] wr.drew fun e w' => e = .returned (.bool true) ∧ Below wr.drew.heap.size wr.drew w') :=
          ih (exW l[k]) (by omega) (by omega) (.mk kd nn oo mm ks) (by rw [hx1]; exact Nat.le_refl _) S T _ _ wr.drew ⟨x1, d1, rfl, g1, exR_mono (T := S) (fun i hi hlt => ⟨hi, B1.block i hlt⟩) s1⟩ ⟨x2, d2, rfl, g2, exR_mono (T := T) (fun i hi hlt => ⟨hi, B1.block i hlt⟩) s2⟩
        have hk0 : (0 : Int) ≤ (k : Int) := by omega
        have hk1 : (k : Int) < (l.length : Int) := by omega
        clear ih hx1 hmem f0 f1 f2 f3 f4 f0' f1' f2' f3' f4' R1 R2 r1 r2 s1 s2 p1 p2 k1 k2 hbl b0 hst
        go_wp2_with fail
        go_region_held3 (fun w' => SaS w.heap.size (w.heap.size + 1) (.slice (some ⟨b1, o1, none⟩) l.length c1) (.slice (some ⟨b2, o2, none⟩) l.length c2) b1 (o1 + k * 5) b2 (o2 + k * 5) kd nn oo mm (.slice x1 ks.length d1) (.slice x2 ks.length d2) w')
          (first | with_reducible exact S2 | with_reducible exact S1)
          (first | (go_at_call 74; refine hC.out.mono ?_; rintro e w2 ⟨rfl, hb2⟩; have B2 := bl_then B1 hb2; have S2 := S1.on hb2))
        all_goals
          go_wp2_with fail
          go_roundw
          case rel => exact ⟨k + 1, by omega, by go_num, bl_then HB.out B2⟩
          case measure => simp [intOf]; omega
      · go_wp2_with fail
        go_ret
        exact ⟨rfl, bl_then hb0 HB.out⟩
end Go.Proofs.YtbpdhegfdmppgaaGreatDoor.Sh

/- CONTRACT of carlingref03.SameStmts at statements that lie twice. -/
namespace Go.Proofs.YtbpdhegfdmppgaaGreatDoor.Sh
open Go.ChangeShapes Go.WideShapes Go.ChangeAt Go.RowKit

theorem neq_ty (b : Bool) (n : Int) (w : World) : (binOp .neq 77 (.agg #[.bool b, .int .i64 n]) (.agg #[.bool b, .int .i64 n])).run Tryz.prog w = .ok (.bool false) w := by
  rw [run_neq_struct, show (10000 : Nat) = 9999 + 1 from rfl, run_equalIn_agg w 9999 77 _ _ ty_fields ty_held]
  have u3 := Tryz.underlying3
  have a3 := Tryz.isAgg3
  have z3 := Tryz.sizeOf3
  have u4 := Tryz.underlying4
  have a4 := Tryz.isAgg4
  have z4 := Tryz.sizeOf4
  simp only [Program.fieldsOf, Tryz.underlying77]
  go_simp

/-- What SameStmts reads of a statement that lies in a block of its own. -/
abbrev Sm18 (g : Nat) (kind : Int) (name : List UInt8) (sec : Bool) (len fr to : Int) (k1 : Int) (n1 : Nat) (o1 : Int) (m1 : List UInt8) (k2 : Int) (n2 : Nat) (o2 : Int) (m2 : List UInt8) (s1 s2 s3 s4 : Value) (w : World) : Prop :=
  w.cell? ⟨g, 0, none⟩ = some (.int .i64 kind) ∧ w.cell? ⟨g, 1, none⟩ = some (.string (bs name)) ∧ w.cell? ⟨g, 2, none⟩ = some (.bool sec) ∧ w.cell? ⟨g, 3, none⟩ = some (.int .i64 len) ∧ w.cell? ⟨g, 4, none⟩ = some (.int .i64 fr) ∧ w.cell? ⟨g, 5, none⟩ = some (.int .i64 to) ∧ w.cell? ⟨g, 6, none⟩ = some (.int .i64 k1) ∧ w.cell? ⟨g, 7, none⟩ = some (.int .u32 n1) ∧ w.cell? ⟨g, 8, none⟩ = some (.int .i64 o1) ∧ w.cell? ⟨g, 9, none⟩ = some (.string (bs m1)) ∧ w.cell? ⟨g, 10, none⟩ = some (s1) ∧ w.cell? ⟨g, 11, none⟩ = some (.int .i64 k2) ∧ w.cell? ⟨g, 12, none⟩ = some (.int .u32 n2) ∧ w.cell? ⟨g, 13, none⟩ = some (.int .i64 o2) ∧ w.cell? ⟨g, 14, none⟩ = some (.string (bs m2)) ∧ w.cell? ⟨g, 15, none⟩ = some (s2) ∧ w.cell? ⟨g, 16, none⟩ = some (s3) ∧ w.cell? ⟨g, 17, none⟩ = some (s4)
theorem Sm18.on {g : Nat} {kind : Int} {name : List UInt8} {sec : Bool} {len fr to : Int} {k1 : Int} {n1 : Nat} {o1 : Int} {m1 : List UInt8} {k2 : Int} {n2 : Nat} {o2 : Int} {m2 : List UInt8} {s1 s2 s3 s4 : Value} {w w' : World} (H : Sm18 g kind name sec len fr to k1 n1 o1 m1 k2 n2 o2 m2 s1 s2 s3 s4 w) (hb : Below w.heap.size w w') : Sm18 g kind name sec len fr to k1 n1 o1 m1 k2 n2 o2 m2 s1 s2 s3 s4 w' := by
  obtain ⟨h0, h1, h2, h3, h4, h5, h6, h7, h8, h9, h10, h11, h12, h13, h14, h15, h16, h17⟩ := H
  exact ⟨cell_up hb h0, cell_up hb h1, cell_up hb h2, cell_up hb h3, cell_up hb h4, cell_up hb h5, cell_up hb h6, cell_up hb h7, cell_up hb h8, cell_up hb h9, cell_up hb h10, cell_up hb h11, cell_up hb h12, cell_up hb h13, cell_up hb h14, cell_up hb h15, cell_up hb h16, cell_up hb h17⟩
theorem Sm18.of {g : Nat} {kind : Int} {name : List UInt8} {sec : Bool} {len fr to : Int} {k1 : Int} {n1 : Nat} {o1 : Int} {m1 : List UInt8} {k2 : Int} {n2 : Nat} {o2 : Int} {m2 : List UInt8} {s1 s2 s3 s4 : Value} {w : World} {t : TypeId} (h : w.heap[g]? = some (.cells #[.int .i64 kind, .string (bs name), .bool sec, .int .i64 len, .int .i64 fr, .int .i64 to, .int .i64 k1, .int .u32 n1, .int .i64 o1, .string (bs m1), s1, .int .i64 k2, .int .u32 n2, .int .i64 o2, .string (bs m2), s2, s3, s4] t (0, 0))) : Sm18 g kind name sec len fr to k1 n1 o1 m1 k2 n2 o2 m2 s1 s2 s3 s4 w := by
  refine ⟨?_, ?_, ?_, ?_, ?_, ?_, ?_, ?_, ?_, ?_, ?_, ?_, ?_, ?_, ?_, ?_, ?_, ?_⟩ <;> simp [World.cell?, h]
theorem sm_on {w w' : World} {S : Nat → Prop} {a : Option Addr} {l : List Sm} (h : smR w S a l) (hb : Below w.heap.size w w') : kSm.row w' S a l := kSm.row_mono (by decide) ((smR_row _ _ _ _).1 h) fun b hS hlt => ⟨hS, hb.block b hlt⟩
set_option maxRecDepth 100000 in
set_option maxHeartbeats 16000000 in
theorem sameSm_any (n : Nat) : n ≤ 1000000000 → ∀ (l : List Sm), smWs l ≤ n → ∀ (S T : Nat → Prop) (a1 a2 : Option Addr) (c1 c2 : Nat) (w : World), kSm.row w S a1 l → kSm.row w T a2 l →
    Calls Tryz.prog 73 #[.slice a1 l.length c1, .slice a2 l.length c2] w fun e w' => e = .returned (.bool true) ∧ Below w.heap.size w w' := by
  induction n using Nat.strongRecOn with
  | _ n ih =>
    intro hn9 l hl S T a1 a2 c1 c2 w r1 r2
    have hln := smWs_len l
    go_enter Tryz.func73, Tryz.ntmps73
    go_wp2_with fail
    go_loopw [5] (fun i wr => ∃ k : Nat, k ≤ l.length ∧ i = .int .i64 k ∧ Below w.heap.size w wr) (fun i _ => l.length - (intOf i).toNat)
    case atStart => exact ⟨0, Nat.zero_le _, rfl, Below.refl _ _⟩
    case round =>
      obtain ⟨k, hk, rfl, hbl⟩ := hrel
      have HB := Lib.hid hbl
      by_cases hlt : k < l.length
      · have R1 : kSm.row wr S a1 l := kSm.row_mono (by decide) r1 fun b hS hlt => ⟨hS, hbl.block b hlt⟩
        have R2 : kSm.row wr T a2 l := kSm.row_mono (by decide) r2 fun b hS hlt => ⟨hS, hbl.block b hlt⟩
        obtain ⟨b, o, cs, rfl, hSb, hcs, hC⟩ := kSm.row_at R1 k l[k] (List.getElem?_eq_getElem hlt)
        obtain ⟨b', o', cs', rfl, hSb', hcs', hC'⟩ := kSm.row_at R2 k l[k] (List.getElem?_eq_getElem hlt)
        have hmem := smW_mem l l[k] (List.getElem_mem hlt)
        have hC1 : smC wr S cs l[k] := hC
        have hC2 : smC wr T cs' l[k] := hC'
        obtain ⟨x, hx⟩ : ∃ x, l[k] = x := ⟨_, rfl⟩
        rw [hx] at hC1 hC2 hmem
        obtain ⟨kind, name, sec, len, fr, to, ⟨k1, n1, o1, m1, l1⟩, ⟨k2, n2, o2, m2, l2⟩, body, els⟩ := x
        rw [smC_mk] at hC1 hC2
        obtain ⟨x1, xc1, x2, xc2, x3, xc3, x4, xc4, ecs, u1, u2, u3, u4, s1, s2, s3, s4⟩ := hC1
        obtain ⟨y1, yc1, y2, yc2, y3, yc3, y4, yc4, ecs', u1', u2', u3', u4', s1', s2', s3', s4'⟩ := hC2
        rw [smW] at hmem
        have hb : b < wr.heap.size := World.block_lt_of_cell? wr _ (hcs 0 (.int .i64 kind) (by rw [ecs]; rfl))
        have hb' : b' < wr.heap.size := World.block_lt_of_cell? wr _ (hcs' 0 (.int .i64 kind) (by rw [ecs']; rfl))
        have hra : wr.rangeAt b (o + k * 18) cs := fun j v hj => hcs j v hj
        have hone : cs.toArray.all (·.oneCell') = true := by rw [ecs]; simp [Value.oneCell']
        have hone' : cs'.toArray.all (·.oneCell') = true := by rw [ecs']; simp [Value.oneCell']
        have hcl : cs.length = 18 := by rw [ecs]; rfl
        have hcl' : cs'.length = 18 := by rw [ecs']; rfl
        have hi18 : (Tryz.prog.info? 110).map (·.size) = some cs.length := by rw [hcl]; exact info_stmt
        have hi18' : (Tryz.prog.info? 110).map (·.size) = some cs'.length := by rw [hcl']; exact info_stmt
        have hia : (Tryz.prog.info? 110).map (·.size) = some cs.toArray.size := by simpa using hi18
        have hia' : (Tryz.prog.info? 110).map (·.size) = some cs'.toArray.size := by simpa using hi18'
        have hzs : zS.size = cs.toArray.size := by show 18 = _; rw [List.size_toArray, hcl]
        have hzs' : zS.size = cs'.toArray.size := by show 18 = _; rw [List.size_toArray, hcl']
        obtain ⟨w1, hw1⟩ : ∃ w1, w1 = (wr.alloc (.cells zS 110)).setRow wr.heap.size cs.toArray := ⟨_, rfl⟩
        have hx1 : w1.heap[wr.heap.size]? = some (.cells cs.toArray 110 (0, 0)) := by rw [hw1]; exact setRow_at (heap_alloc_new wr _)
        have hb1 : Below wr.heap.size wr w1 := by rw [hw1]; exact Kept.to_below (setRow_kept _ (Kept.alloc wr _ (fun _ => False)) (Nat.le_refl _)) (fun _ h => h.elim)
        have HW1 : Hid (w1 = (wr.alloc (.cells zS 110)).setRow wr.heap.size cs.toArray) := hw1
        have hra' : w1.rangeAt b' (o' + k * 18) cs' := fun j v hj => cell_up hb1 (hcs' j v hj)
        obtain ⟨w2, hw2⟩ : ∃ w2, w2 = (w1.alloc (.cells zS 110)).setRow w1.heap.size cs'.toArray := ⟨_, rfl⟩
        have hx2 : w2.heap[w1.heap.size]? = some (.cells cs'.toArray 110 (0, 0)) := by rw [hw2]; exact setRow_at (heap_alloc_new w1 _)
        have hb2 : Below w1.heap.size w1 w2 := by rw [hw2]; exact Kept.to_below (setRow_kept _ (Kept.alloc w1 _ (fun _ => False)) (Nat.le_refl _)) (fun _ h => h.elim)
        have HW2 : Hid (w2 = (w1.alloc (.cells zS 110)).setRow w1.heap.size cs'.toArray) := hw2
        clear hw1 hw2
        have H1 : Sm18 wr.heap.size kind name sec len fr to k1 n1 o1 m1 k2 n2 o2 m2 (.slice x1 l1.length xc1) (.slice x2 l2.length xc2) (.slice x3 body.length xc3) (.slice x4 els.length xc4) w2 := (Sm18.of (by rw [ecs] at hx1; exact hx1)).on hb2
        have H2 : Sm18 w1.heap.size kind name sec len fr to k1 n1 o1 m1 k2 n2 o2 m2 (.slice y1 l1.length yc1) (.slice y2 l2.length yc2) (.slice y3 body.length yc3) (.slice y4 els.length yc4) w2 := Sm18.of (by rw [ecs'] at hx2; exact hx2)
        have HST := Lib.hid H1
        have HST' := Lib.hid H2
        have bw : Below wr.heap.size wr w2 := bl_then hb1 hb2
        have hk0 : (0 : Int) ≤ (k : Int) := by omega
        have hk1 : (k : Int) < (l.length : Int) := by omega
        have hE1 : Hid (∀ w3, Below w2.heap.size w2 w3 → Calls Tryz.prog 74 #[.agg #[.int .i64 k1, .int .u32 n1, .int .i64 o1, .string (bs m1), .slice x1 l1.length xc1], .agg #[.int .i64 k1, .int .u32 n1, .int .i64 o1, .string (bs m1), .slice y1 l1.length yc1]] w3 fun e w' => e = .returned (.bool true) ∧ Below w3.heap.size w3 w') := fun w3 hb => sameEx_any 1000000000 (Nat.le_refl _) (.mk k1 n1 o1 m1 l1) (by omega) S T _ _ w3 ⟨x1, xc1, rfl, u1, exR_mono (T := S) (fun i hi hlt => ⟨hi, (bl_then bw hb).block i hlt⟩) s1⟩ ⟨y1, yc1, rfl, u1', exR_mono (T := T) (fun i hi hlt => ⟨hi, (bl_then bw hb).block i hlt⟩) s1'⟩
        have hE2 : Hid (∀ w3, Below w2.heap.size w2 w3 → Calls Tryz.prog 74 #[.agg #[.int .i64 k2, .int .u32 n2, .int .i64 o2, .string (bs m2), .slice x2 l2.length xc2], .agg #[.int .i64 k2, .int .u32 n2, .int .i64 o2, .string (bs m2), .slice y2 l2.length yc2]] w3 fun e w' => e = .returned (.bool true) ∧ Below w3.heap.size w3 w') := fun w3 hb => sameEx_any 1000000000 (Nat.le_refl _) (.mk k2 n2 o2 m2 l2) (by omega) S T _ _ w3 ⟨x2, xc2, rfl, u2, exR_mono (T := S) (fun i hi hlt => ⟨hi, (bl_then bw hb).block i hlt⟩) s2⟩ ⟨y2, yc2, rfl, u2', exR_mono (T := T) (fun i hi hlt => ⟨hi, (bl_then bw hb).block i hlt⟩) s2'⟩
        have hS3 : Hid (∀ w3, Below w2.heap.size w2 w3 → Calls Tryz.prog 73 #[.slice x3 body.length xc3, .slice y3 body.length yc3] w3 fun e w' => e = .returned (.bool true) ∧ Below w3.heap.size w3 w') := fun w3 hb => ih (smWs body) (by omega) (by omega) body (Nat.le_refl _) S T x3 y3 xc3 yc3 w3 (sm_on s3 (bl_then bw hb)) (sm_on s3' (bl_then bw hb))
        have hS4 : Hid (∀ w3, Below w2.heap.size w2 w3 → Calls Tryz.prog 73 #[.slice x4 els.length xc4, .slice y4 els.length yc4] w3 fun e w' => e = .returned (.bool true) ∧ Below w3.heap.size w3 w') := fun w3 hb => ih (smWs els) (by omega) (by omega) els (Nat.le_refl _) S T x4 y4 xc4 yc4 w3 (sm_on s4 (bl_then bw hb)) (sm_on s4' (bl_then bw hb))
        have hty := neq_ty sec len
        clear ih hx hmem hcs hcs' hC hC' ecs ecs' s1 s2 s3 s4 s1' s2' s3' s4' u1 u2 u3 u4 u1' u2' u3' u4' R1 R2 r1 r2 hx1 hx2 hSb hSb' H1 H2 hbl
        go_wp2_with (first | (refine wpList_load_mid rfl 110 (.tmp 21) rfl b (o + k * 18) rfl cs _ hra Tryz.underlying110 rfl hi18 ?_) | (refine wpList_store_row rfl 110 (.tmp 6) _ rfl wr.heap.size cs.toArray rfl rfl 110 zS (heap_alloc_new wr _) hia hzs hone ?_; rw [← HW1.out]) | (refine wpList_load_mid rfl 110 (.tmp 25) rfl b' (o' + k * 18) rfl cs' _ hra' Tryz.underlying110 rfl hi18' ?_) | (refine wpList_store_row rfl 110 (.tmp 7) _ rfl w1.heap.size cs'.toArray rfl rfl 110 zS (heap_alloc_new w1 _) hia' hzs' hone' ?_; rw [← HW2.out]; refine Hid.out ?_))
        refine Lib.hid ?_
        clear hra hra' hi18 hi18' hia hia' hzs hzs' hone hone' hcl hcl' HW1 HW2
        have lt1 : wr.heap.size < w2.heap.size := World.block_lt_of_cell? w2 _ HST.out.1
        have lt2 : w1.heap.size < w2.heap.size := World.block_lt_of_cell? w2 _ HST'.out.1
        obtain ⟨p0, p1, p2, p3, p4, p5, p6, p7, p8, p9, p10, p11, p12, p13, p14, p15, p16, p17⟩ := HST.out
        obtain ⟨q0, q1, q2, q3, q4, q5, q6, q7, q8, q9, q10, q11, q12, q13, q14, q15, q16, q17⟩ := HST'.out
        go_wp2_with (first | (go_at_call 74; refine (hE1.out _ (Below.refl _ _)).mono ?_; rintro e w3 ⟨rfl, hb3⟩; refine Hid.out ?_))
        refine Lib.hid ?_
        clear p0 p1 p2 p3 p4 p5 p6 p7 p8 p9 p10 p11 p12 p13 p14 p15 p16 p17 q0 q1 q2 q3 q4 q5 q6 q7 q8 q9 q10 q11 q12 q13 q14 q15 q16 q17 hE1
        obtain ⟨p0, p1, p2, p3, p4, p5, p6, p7, p8, p9, p10, p11, p12, p13, p14, p15, p16, p17⟩ := HST.out.on hb3
        obtain ⟨q0, q1, q2, q3, q4, q5, q6, q7, q8, q9, q10, q11, q12, q13, q14, q15, q16, q17⟩ := HST'.out.on hb3
        go_wp2_with (first | (go_at_call 74; refine (hE2.out _ hb3).mono ?_; rintro e w4 ⟨rfl, hb4'⟩; refine Hid.out ?_))
        refine Lib.hid ?_
        have hb4 := bl_then hb3 hb4'
        clear p0 p1 p2 p3 p4 p5 p6 p7 p8 p9 p10 p11 p12 p13 p14 p15 p16 p17 q0 q1 q2 q3 q4 q5 q6 q7 q8 q9 q10 q11 q12 q13 q14 q15 q16 q17 hE2 hb4'
        obtain ⟨p0, p1, p2, p3, p4, p5, p6, p7, p8, p9, p10, p11, p12, p13, p14, p15, p16, p17⟩ := HST.out.on hb4
        obtain ⟨q0, q1, q2, q3, q4, q5, q6, q7, q8, q9, q10, q11, q12, q13, q14, q15, q16, q17⟩ := HST'.out.on hb4
        go_wp2_with (first | (go_at_call 73; refine (hS3.out _ hb4).mono ?_; rintro e w5 ⟨rfl, hb5'⟩; refine Hid.out ?_))
        refine Lib.hid ?_
        have hb5 := bl_then hb4 hb5'
        clear p0 p1 p2 p3 p4 p5 p6 p7 p8 p9 p10 p11 p12 p13 p14 p15 p16 p17 q0 q1 q2 q3 q4 q5 q6 q7 q8 q9 q10 q11 q12 q13 q14 q15 q16 q17 hS3 hb5'
        obtain ⟨p0, p1, p2, p3, p4, p5, p6, p7, p8, p9, p10, p11, p12, p13, p14, p15, p16, p17⟩ := HST.out.on hb5
        obtain ⟨q0, q1, q2, q3, q4, q5, q6, q7, q8, q9, q10, q11, q12, q13, q14, q15, q16, q17⟩ := HST'.out.on hb5
        go_wp2_with (first | (go_at_call 73; refine (hS4.out _ hb5).mono ?_; rintro e w6 ⟨rfl, hb6'⟩))
        go_roundw
        case rel => exact ⟨k + 1, by omega, by go_num, bl_then HB.out (bl_then bw (bl_then hb5 hb6'))⟩
        case measure => simp [intOf]; omega
      · go_wp2_with fail
        go_ret
        exact ⟨rfl, HB.out⟩
end Go.Proofs.YtbpdhegfdmppgaaGreatDoor.Sh

/- CONTRACT of carlingref03.SameFunc at one function that lies twice. -/
namespace Go.Proofs.YtbpdhegfdmppgaaGreatDoor.Sh
open Go.ChangeShapes Go.WideShapes Go.ChangeAt Go.RowKit

theorem pa_fields : Tryz.prog.underlying 79 = some (.struct (Tryz.prog.fieldsOf 79)) := by kernel_rfl
theorem pa_held : Tryz.prog.stoodInHeld 79 = false := by kernel_rfl
theorem neq_pa (s : ByteArray) (b : Bool) (n : Int) (w : World) : (binOp .neq 79 (.agg #[.string s, .bool b, .int .i64 n]) (.agg #[.string s, .bool b, .int .i64 n])).run Tryz.prog w = .ok (.bool false) w := by
  rw [run_neq_struct, show (10000 : Nat) = 9999 + 1 from rfl, run_equalIn_agg w 9999 79 _ _ pa_fields pa_held]
  have u3 := Tryz.underlying3
  have a3 := Tryz.isAgg3
  have z3 := Tryz.sizeOf3
  have u4 := Tryz.underlying4
  have a4 := Tryz.isAgg4
  have z4 := Tryz.sizeOf4
  have u9 := Tryz.underlying9
  have a9 := Tryz.isAgg9
  have z9 := Tryz.sizeOf9
  simp only [Program.fieldsOf, Tryz.underlying79]
  go_simp
theorem pa_row_at {w : World} {S : Nat → Prop} {a : Option Addr} {l : List Pa} (h : kPa.row w S a l) (i : Nat) (hi : i < l.length) : ∃ b q, a = some ⟨b, q, none⟩ ∧ w.cell? ⟨b, q + i * 3, none⟩ = some (.string (bs l[i].name)) ∧ w.cell? ⟨b, q + i * 3 + 1, none⟩ = some (.bool l[i].sec) ∧ w.cell? ⟨b, q + i * 3 + 2, none⟩ = some (.int .i64 l[i].len) := by
  obtain ⟨b, q, cs, rfl, hS, hc, hC⟩ := kPa.row_at h i l[i] (List.getElem?_eq_getElem hi)
  have hC' : cs = _ := hC
  subst hC'
  exact ⟨b, q, rfl, hc 0 _ rfl, hc 1 _ rfl, hc 2 _ rfl⟩
set_option maxRecDepth 100000 in
set_option maxHeartbeats 8000000 in
theorem sameFu_any {S T : Nat → Prop} (name : List UInt8) (params : List Pa) (sec : Bool) (body : List Sm) (k : Int) (m : Nat) (o : Int) (nm : List UInt8) (ls : List Ex) (x1 x2 x3 y1 y2 y3 : Option Addr) (xc1 xc2 xc3 yc1 yc2 yc3 : Nat) (w : World)
    (hp : params.length ≤ 1000000000) (hw : smWs body ≤ 1000000000) (he : exW (.mk k m o nm ls) ≤ 1000000000) (u3 : ls.length ≤ xc3) (u3' : ls.length ≤ yc3) (r1 : kPa.row w S x1 params) (r2 : smR w S x2 body) (r3 : exR w S x3 ls) (r1' : kPa.row w T y1 params) (r2' : smR w T y2 body) (r3' : exR w T y3 ls) :
    Calls Tryz.prog 36 #[.agg #[.string (bs name), .slice x1 params.length xc1, .bool sec, .slice x2 body.length xc2, .int .i64 k, .int .u32 m, .int .i64 o, .string (bs nm), .slice x3 ls.length xc3], .agg #[.string (bs name), .slice y1 params.length yc1, .bool sec, .slice y2 body.length yc2, .int .i64 k, .int .u32 m, .int .i64 o, .string (bs nm), .slice y3 ls.length yc3]] w fun e w' => e = .returned (.bool true) ∧ Below w.heap.size w w' := by
  have hb0 := bl_two w (.cells #[.string (bs name), .slice x1 params.length xc1, .bool sec, .slice x2 body.length xc2, .int .i64 k, .int .u32 m, .int .i64 o, .string (bs nm), .slice x3 ls.length xc3] 47) (.cells #[.string (bs name), .slice y1 params.length yc1, .bool sec, .slice y2 body.length yc2, .int .i64 k, .int .u32 m, .int .i64 o, .string (bs nm), .slice y3 ls.length yc3] 47)
  obtain ⟨g1, g2⟩ := at_two w (.cells #[.string (bs name), .slice x1 params.length xc1, .bool sec, .slice x2 body.length xc2, .int .i64 k, .int .u32 m, .int .i64 o, .string (bs nm), .slice x3 ls.length xc3] 47) (.cells #[.string (bs name), .slice y1 params.length yc1, .bool sec, .slice y2 body.length yc2, .int .i64 k, .int .u32 m, .int .i64 o, .string (bs nm), .slice y3 ls.length yc3] 47)
  go_enter Tryz.func36, Tryz.ntmps36
  go_wp2_with fail
  generalize (w.alloc (.cells #[.string (bs name), .slice x1 params.length xc1, .bool sec, .slice x2 body.length xc2, .int .i64 k, .int .u32 m, .int .i64 o, .string (bs nm), .slice x3 ls.length xc3] 47)).alloc (.cells #[.string (bs name), .slice y1 params.length yc1, .bool sec, .slice y2 body.length yc2, .int .i64 k, .int .u32 m, .int .i64 o, .string (bs nm), .slice y3 ls.length yc3] 47) = w0 at hb0 g1 g2 ⊢
  have lt1 := lt_of_some g1
  have lt2 := lt_of_some g2
  have p : ∀ i, w0.cell? ⟨w.heap.size, i, none⟩ = (#[.string (bs name), .slice x1 params.length xc1, .bool sec, .slice x2 body.length xc2, .int .i64 k, .int .u32 m, .int .i64 o, .string (bs nm), .slice x3 ls.length xc3] : Array Value)[i]? := fun i => by simp [World.cell?, g1]
  have q : ∀ i, w0.cell? ⟨w.heap.size + 1, i, none⟩ = (#[.string (bs name), .slice y1 params.length yc1, .bool sec, .slice y2 body.length yc2, .int .i64 k, .int .u32 m, .int .i64 o, .string (bs nm), .slice y3 ls.length yc3] : Array Value)[i]? := fun i => by simp [World.cell?, g2]
  go_loopw [5] (fun i wr => ∃ j dd : Nat, j ≤ params.length ∧ i = .int .i64 j ∧ wr = w0.drewN dd) (fun i _ => params.length - (intOf i).toNat)
  case atStart => exact ⟨0, 0, Nat.zero_le _, rfl, rfl⟩
  case round =>
    obtain ⟨j, dd, hj, rfl, hwr⟩ := hrel
    have HW := Lib.hid hwr
    have pr : ∀ i, wr.cell? ⟨w.heap.size, i, none⟩ = (#[.string (bs name), .slice x1 params.length xc1, .bool sec, .slice x2 body.length xc2, .int .i64 k, .int .u32 m, .int .i64 o, .string (bs nm), .slice x3 ls.length xc3] : Array Value)[i]? := fun i => by rw [hwr]; exact p i
    have qr : ∀ i, wr.cell? ⟨w.heap.size + 1, i, none⟩ = (#[.string (bs name), .slice y1 params.length yc1, .bool sec, .slice y2 body.length yc2, .int .i64 k, .int .u32 m, .int .i64 o, .string (bs nm), .slice y3 ls.length yc3] : Array Value)[i]? := fun i => by rw [hwr]; exact q i
    have hbl : Below w.heap.size w wr := by rw [hwr]; exact bl_then hb0 ⟨rfl, rfl, rfl, Nat.le_refl _, fun _ _ => rfl⟩
    have HB := Lib.hid hbl
    have l1 : w.heap.size < wr.heap.size := by rw [hwr]; exact lt1
    have l2 : w.heap.size + 1 < wr.heap.size := by rw [hwr]; exact lt2
    clear hwr p q g1 g2 lt1 lt2
    by_cases hlt : j < params.length
    · obtain ⟨b, o1, rfl, f0, f1, f2⟩ := pa_row_at (kPa.row_mono (T := S) (by decide) r1 fun b hS hlt => ⟨hS, hbl.block b hlt⟩) j hlt
      obtain ⟨b', o1', rfl, f0', f1', f2'⟩ := pa_row_at (kPa.row_mono (T := T) (by decide) r1' fun b hS hlt => ⟨hS, hbl.block b hlt⟩) j hlt
      have hne := neq_pa (bs params[j].name) params[j].sec params[j].len
      have hj0 : (0 : Int) ≤ (j : Int) := by omega
      have hj1 : (j : Int) < (params.length : Int) := by omega
      clear hbl r1 r1' r2 r2' r3 r3'
      go_wp2_with fail
      go_quiet (fail)
      go_wp2_with fail
      go_roundw
      case rel => exact ⟨j + 1, dd + nq, by omega, by go_num, by rw [HW.out, World.drewN_drewN]⟩
      case measure => simp [intOf]; omega
    · have hS := Lib.hid (sameSm_any 1000000000 (Nat.le_refl _) body hw S T x2 y2 xc2 yc2 wr (sm_on r2 hbl) (sm_on r2' hbl))
      have hE : Hid (∀ w3, Below wr.heap.size wr w3 → Calls Tryz.prog 74 #[.agg #[.int .i64 k, .int .u32 m, .int .i64 o, .string (bs nm), .slice x3 ls.length xc3], .agg #[.int .i64 k, .int .u32 m, .int .i64 o, .string (bs nm), .slice y3 ls.length yc3]] w3 fun e w' => e = .returned (.bool true) ∧ Below w3.heap.size w3 w') := fun w3 hb => sameEx_any 1000000000 (Nat.le_refl _) (.mk k m o nm ls) he S T _ _ w3 ⟨x3, xc3, rfl, u3, exR_mono (T := S) (fun i hi hlt => ⟨hi, (bl_then hbl hb).block i hlt⟩) r3⟩ ⟨y3, yc3, rfl, u3', exR_mono (T := T) (fun i hi hlt => ⟨hi, (bl_then hbl hb).block i hlt⟩) r3'⟩
      clear hbl r1 r1' r2 r2' r3 r3'
      go_wp2_with (first | (go_at_call 73; refine hS.out.mono ?_; rintro e w3 ⟨rfl, hb3⟩; refine Hid.out ?_))
      refine Lib.hid ?_
      have pr3 : ∀ i, w3.cell? ⟨w.heap.size, i, none⟩ = (#[.string (bs name), .slice x1 params.length xc1, .bool sec, .slice x2 body.length xc2, .int .i64 k, .int .u32 m, .int .i64 o, .string (bs nm), .slice x3 ls.length xc3] : Array Value)[i]? := fun i => by rw [← pr i]; exact World.cell?_of_block (hb3.block _ l1)
      have qr3 : ∀ i, w3.cell? ⟨w.heap.size + 1, i, none⟩ = (#[.string (bs name), .slice y1 params.length yc1, .bool sec, .slice y2 body.length yc2, .int .i64 k, .int .u32 m, .int .i64 o, .string (bs nm), .slice y3 ls.length yc3] : Array Value)[i]? := fun i => by rw [← qr i]; exact World.cell?_of_block (hb3.block _ l2)
      clear pr qr
      go_wp2_with (first | (go_at_call 74; refine (hE.out _ hb3).mono ?_; rintro e w4 ⟨rfl, hb4⟩))
      go_ret
      exact ⟨rfl, bl_then (bl_then HB.out hb3) hb4⟩
end Go.Proofs.YtbpdhegfdmppgaaGreatDoor.Sh
