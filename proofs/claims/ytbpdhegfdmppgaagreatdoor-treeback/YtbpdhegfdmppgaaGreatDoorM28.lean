/- Texts of this proof, put together: SSt4b, SFor, SSt5, SSt6b, SStAll, SPar, SFunc. -/
import Derived.Test.YtbpdhegfdmppgaaGreatDoorM27
import Derived.Test.YtbpdhegfdmppgaaGreatDoorM20

/- CONTRACT of stmtNode at put that cannot be shown. -/
namespace Go.Proofs.YtbpdhegfdmppgaaGreatDoor.Sh
open Go.ChangeShapes Go.WideShapes Go.ChangeAt Go.RowKit

set_option maxRecDepth 100000 in
set_option maxHeartbeats 2000000 in
theorem stmt_put_name (cs : Array Value) (name : List UInt8) (sec : Bool) (len fr to k1 : Int) (n1 : Nat) (o1 : Int) (m1 : List UInt8) (l1 : List Ex) (k2 : Int) (n2 : Nat) (o2 : Int) (m2 : List UInt8) (l2 : List Ex) (body els : List Sm) (a1 : Option Addr) (c1 : Nat) (a2 : Option Addr) (c2 : Nat) (a3 : Option Addr) (c3 : Nat) (a4 : Option Addr) (c4 : Nat) (w : World)
    (hcs : cs = smA 4 name sec len fr to k1 n1 o1 m1 a1 l1.length c1 k2 n2 o2 m2 a2 l2.length c2 a3 body.length c3 a4 els.length c4) (hn : isName name = false) :
    Calls Tryz.prog 89 #[.agg cs] w (Shows NdV w (shS (.mk 4 name sec len fr to (.mk k1 n1 o1 m1 l1) (.mk k2 n2 o2 m2 l2) body els))) := by
  have HF : Hid (shS (.mk 4 name sec len fr to (.mk k1 n1 o1 m1 l1) (.mk k2 n2 o2 m2 l2) body els) = none) := by
    show _ = _
    rw [shS, if_neg (by omega), if_neg (by omega), if_neg (by omega), if_pos rfl, shName, hn]; rfl
  have hnm := nameNode_any name
  have hns : shName name = none := by rw [shName, hn]; rfl
  rw [hns] at hnm
  have q0 : cs[0]? = some (.int .i64 4) := by rw [hcs]; rfl
  have q1 : cs[1]? = some (.string (bs name)) := by rw [hcs]; rfl
  have q6 : cs[6]? = some (.int .i64 k1) := by rw [hcs]; rfl
  have q7 : cs[7]? = some (.int .u32 (n1 : Nat)) := by rw [hcs]; rfl
  have q8 : cs[8]? = some (.int .i64 o1) := by rw [hcs]; rfl
  have q9 : cs[9]? = some (.string (bs m1)) := by rw [hcs]; rfl
  have q10 : cs[10]? = some (.slice a1 l1.length c1) := by rw [hcs]; rfl
  have q11 : cs[11]? = some (.int .i64 k2) := by rw [hcs]; rfl
  have q12 : cs[12]? = some (.int .u32 (n2 : Nat)) := by rw [hcs]; rfl
  have q13 : cs[13]? = some (.int .i64 o2) := by rw [hcs]; rfl
  have q14 : cs[14]? = some (.string (bs m2)) := by rw [hcs]; rfl
  have q15 : cs[15]? = some (.slice a2 l2.length c2) := by rw [hcs]; rfl
  have HCS : Hid (cs = smA 4 name sec len fr to k1 n1 o1 m1 a1 l1.length c1 k2 n2 o2 m2 a2 l2.length c2 a3 body.length c3 a4 els.length c4) := hcs
  have hia : (Tryz.prog.info? 110).map (·.size) = some cs.size := by rw [hcs]; exact info_stmt
  have hzs : zS.size = cs.size := by rw [hcs]; rfl
  have hone : cs.all (·.oneCell') = true := by rw [hcs]; simp [smA, Value.oneCell']
  clear hcs hn hns
  obtain ⟨w1, hw1⟩ : ∃ w1, w1 = st0 w cs := ⟨_, rfl⟩
  have R0 : St w cs w1 := by rw [hw1]; exact St.start w cs
  have HW1 : Hid (w1 = ((((w.alloc (.cells cs 110)).alloc nd0).alloc nd0).alloc (.cells zS 110)).setRow (w.heap.size + 3) cs) := hw1
  clear hw1
  have hbx : (((w.alloc (.cells cs 110)).alloc nd0).alloc nd0).heap[w.heap.size]? = some (.cells cs 110 (0, 0)) := by
    rw [heap_alloc_old _ _ (by simp; omega), heap_alloc_old _ _ (by simp)]; exact heap_alloc_new w _
  have hmo : ((((w.alloc (.cells cs 110)).alloc nd0).alloc nd0).alloc (.cells zS 110)).heap[w.heap.size + 3]? = some (.cells zS 110 (0, 0)) := by
    have := heap_alloc_new (((w.alloc (.cells cs 110)).alloc nd0).alloc nd0) (.cells zS 110)
    simpa using this
  have cb := R0.cell
  have sz := R0.lt
  have R1 : St w cs w1.drew := R0.on (drew_bl w1)
  go_enter Tryz.func89, Tryz.ntmps89
  go_wp2_with (first | (refine wpList_load_row rfl 110 (.tmp 1) rfl w.heap.size rfl 110 cs (0, 0) _ hbx Tryz.underlying110 rfl hia ?_) | (refine wpList_store_row rfl 110 (.tmp 4) _ rfl (w.heap.size + 3) cs rfl rfl 110 zS hmo hia hzs hone ?_; rw [← HW1.out]; clear hbx hmo))
  obtain ⟨t1, t6, t7, t8, t9, t10, t11, t12, t13, t14, t15⟩ : w1.cell? ⟨w.heap.size, 1, none⟩ = some (.string (bs name)) ∧ w1.cell? ⟨w.heap.size, 6, none⟩ = some (.int .i64 k1) ∧ w1.cell? ⟨w.heap.size, 7, none⟩ = some (.int .u32 (n1 : Nat)) ∧ w1.cell? ⟨w.heap.size, 8, none⟩ = some (.int .i64 o1) ∧ w1.cell? ⟨w.heap.size, 9, none⟩ = some (.string (bs m1)) ∧ w1.cell? ⟨w.heap.size, 10, none⟩ = some (.slice a1 l1.length c1) ∧ w1.cell? ⟨w.heap.size, 11, none⟩ = some (.int .i64 k2) ∧ w1.cell? ⟨w.heap.size, 12, none⟩ = some (.int .u32 (n2 : Nat)) ∧ w1.cell? ⟨w.heap.size, 13, none⟩ = some (.int .i64 o2) ∧ w1.cell? ⟨w.heap.size, 14, none⟩ = some (.string (bs m2)) ∧ w1.cell? ⟨w.heap.size, 15, none⟩ = some (.slice a2 l2.length c2) := ⟨(R0.cell 1).trans q1, (R0.cell 6).trans q6, (R0.cell 7).trans q7, (R0.cell 8).trans q8, (R0.cell 9).trans q9, (R0.cell 10).trans q10, (R0.cell 11).trans q11, (R0.cell 12).trans q12, (R0.cell 13).trans q13, (R0.cell 14).trans q14, (R0.cell 15).trans q15⟩
  clear cb
  go_region_law (first | (refine step_call rfl 77 _ _ rfl #[.string (bs name)] (by simp [go_sem, Act.eval]) ?_; refine (hnm _).mono ?_; rintro e w2 hG2; obtain rfl := hG2.bad rfl; refine (fun (_ : wpAny Tryz.prog Region.Mode.any #[] (fun _ _ _ => True) 0 #[] ⟨#[], []⟩ w1) => ⟨rfl, .ofBad HF.out (bl_then R1.bl hG2.below)⟩) ?_))
  all_goals trivial
set_option maxRecDepth 100000 in
set_option maxHeartbeats 2000000 in
theorem stmt_put_ix {B : Nat} {S : Nat → Prop} (cs : Array Value) (name : List UInt8) (sec : Bool) (len fr to k1 : Int) (n1 : Nat) (o1 : Int) (m1 : List UInt8) (l1 : List Ex) (k2 : Int) (n2 : Nat) (o2 : Int) (m2 : List UInt8) (l2 : List Ex) (body els : List Sm) (a1 : Option Addr) (c1 : Nat) (a2 : Option Addr) (c2 : Nat) (a3 : Option Addr) (c3 : Nat) (a4 : Option Addr) (c4 : Nat) (w : World)
    (hcs : cs = smA 4 name sec len fr to k1 n1 o1 m1 a1 l1.length c1 k2 n2 o2 m2 a2 l2.length c2 a3 body.length c3 a4 els.length c4) (hg : Glob B w) (hr1 : exR w S a1 l1) (hc1 : l1.length ≤ c1) (hm1 : exW (.mk k1 n1 o1 m1 l1) ≤ 1000000) (hok1 : exOk (.mk k1 n1 o1 m1 l1)) (_hr2 : exR w S a2 l2) (_hc2 : l2.length ≤ c2) (_hm2 : exW (.mk k2 n2 o2 m2 l2) ≤ 1000000) (_hok2 : exOk (.mk k2 n2 o2 m2 l2)) (hn : isName name = true) (hs1 : shE (.mk k1 n1 o1 m1 l1) = none) :
    Calls Tryz.prog 89 #[.agg cs] w (Shows NdV w (shS (.mk 4 name sec len fr to (.mk k1 n1 o1 m1 l1) (.mk k2 n2 o2 m2 l2) body els))) := by
  have HF : Hid (shS (.mk 4 name sec len fr to (.mk k1 n1 o1 m1 l1) (.mk k2 n2 o2 m2 l2) body els) = none) := by
    show _ = _
    rw [shS, if_neg (by omega), if_neg (by omega), if_neg (by omega), if_pos rfl, shName, if_pos hn, hs1]; rfl
  have HN1 : Hid (∀ w1, St w cs w1 → Calls Tryz.prog 90 #[exV k1 n1 o1 m1 a1 l1.length c1] w1 (Shows NdV w1 (none))) := fun w1 h1 => by
    rw [← hs1]
    exact expr_any _ w1 _ hm1 hok1 (hg.below h1.bl) ⟨a1, c1, rfl, hc1, exR_mono (T := S) (fun i hi hlt => ⟨hi, h1.bl.block i hlt⟩) hr1⟩
  have hnm := nameNode_any name
  rw [shName, if_pos hn] at hnm
  have q0 : cs[0]? = some (.int .i64 4) := by rw [hcs]; rfl
  have q1 : cs[1]? = some (.string (bs name)) := by rw [hcs]; rfl
  have q6 : cs[6]? = some (.int .i64 k1) := by rw [hcs]; rfl
  have q7 : cs[7]? = some (.int .u32 (n1 : Nat)) := by rw [hcs]; rfl
  have q8 : cs[8]? = some (.int .i64 o1) := by rw [hcs]; rfl
  have q9 : cs[9]? = some (.string (bs m1)) := by rw [hcs]; rfl
  have q10 : cs[10]? = some (.slice a1 l1.length c1) := by rw [hcs]; rfl
  have q11 : cs[11]? = some (.int .i64 k2) := by rw [hcs]; rfl
  have q12 : cs[12]? = some (.int .u32 (n2 : Nat)) := by rw [hcs]; rfl
  have q13 : cs[13]? = some (.int .i64 o2) := by rw [hcs]; rfl
  have q14 : cs[14]? = some (.string (bs m2)) := by rw [hcs]; rfl
  have q15 : cs[15]? = some (.slice a2 l2.length c2) := by rw [hcs]; rfl
  have HCS : Hid (cs = smA 4 name sec len fr to k1 n1 o1 m1 a1 l1.length c1 k2 n2 o2 m2 a2 l2.length c2 a3 body.length c3 a4 els.length c4) := hcs
  have hia : (Tryz.prog.info? 110).map (·.size) = some cs.size := by rw [hcs]; exact info_stmt
  have hzs : zS.size = cs.size := by rw [hcs]; rfl
  have hone : cs.all (·.oneCell') = true := by rw [hcs]; simp [smA, Value.oneCell']
  clear hcs hr1 hm1 hok1 hc1 _hr2 _hm2 _hok2 hg _hc2 hn hs1
  obtain ⟨w1, hw1⟩ : ∃ w1, w1 = st0 w cs := ⟨_, rfl⟩
  have R0 : St w cs w1 := by rw [hw1]; exact St.start w cs
  have HW1 : Hid (w1 = ((((w.alloc (.cells cs 110)).alloc nd0).alloc nd0).alloc (.cells zS 110)).setRow (w.heap.size + 3) cs) := hw1
  clear hw1
  have hbx : (((w.alloc (.cells cs 110)).alloc nd0).alloc nd0).heap[w.heap.size]? = some (.cells cs 110 (0, 0)) := by
    rw [heap_alloc_old _ _ (by simp; omega), heap_alloc_old _ _ (by simp)]; exact heap_alloc_new w _
  have hmo : ((((w.alloc (.cells cs 110)).alloc nd0).alloc nd0).alloc (.cells zS 110)).heap[w.heap.size + 3]? = some (.cells zS 110 (0, 0)) := by
    have := heap_alloc_new (((w.alloc (.cells cs 110)).alloc nd0).alloc nd0) (.cells zS 110)
    simpa using this
  have cb := R0.cell
  have sz := R0.lt
  have R1 : St w cs w1.drew := R0.on (drew_bl w1)
  go_enter Tryz.func89, Tryz.ntmps89
  go_wp2_with (first | (refine wpList_load_row rfl 110 (.tmp 1) rfl w.heap.size rfl 110 cs (0, 0) _ hbx Tryz.underlying110 rfl hia ?_) | (refine wpList_store_row rfl 110 (.tmp 4) _ rfl (w.heap.size + 3) cs rfl rfl 110 zS hmo hia hzs hone ?_; rw [← HW1.out]; clear hbx hmo))
  obtain ⟨t1, t6, t7, t8, t9, t10, t11, t12, t13, t14, t15⟩ : w1.cell? ⟨w.heap.size, 1, none⟩ = some (.string (bs name)) ∧ w1.cell? ⟨w.heap.size, 6, none⟩ = some (.int .i64 k1) ∧ w1.cell? ⟨w.heap.size, 7, none⟩ = some (.int .u32 (n1 : Nat)) ∧ w1.cell? ⟨w.heap.size, 8, none⟩ = some (.int .i64 o1) ∧ w1.cell? ⟨w.heap.size, 9, none⟩ = some (.string (bs m1)) ∧ w1.cell? ⟨w.heap.size, 10, none⟩ = some (.slice a1 l1.length c1) ∧ w1.cell? ⟨w.heap.size, 11, none⟩ = some (.int .i64 k2) ∧ w1.cell? ⟨w.heap.size, 12, none⟩ = some (.int .u32 (n2 : Nat)) ∧ w1.cell? ⟨w.heap.size, 13, none⟩ = some (.int .i64 o2) ∧ w1.cell? ⟨w.heap.size, 14, none⟩ = some (.string (bs m2)) ∧ w1.cell? ⟨w.heap.size, 15, none⟩ = some (.slice a2 l2.length c2) := ⟨(R0.cell 1).trans q1, (R0.cell 6).trans q6, (R0.cell 7).trans q7, (R0.cell 8).trans q8, (R0.cell 9).trans q9, (R0.cell 10).trans q10, (R0.cell 11).trans q11, (R0.cell 12).trans q12, (R0.cell 13).trans q13, (R0.cell 14).trans q14, (R0.cell 15).trans q15⟩
  clear cb
  go_region_law (first | (refine step_call rfl 77 _ _ rfl #[.string (bs name)] (by simp [go_sem, Act.eval]) ?_; refine (hnm _).mono ?_; rintro e w2 hG2; obtain ⟨v2, rfl, a21, k21, rfl, hc21, hr21⟩ := hG2.ok _ rfl; have R2 := R1.on hG2.below; obtain ⟨u1, u6, u7, u8, u9, u10, u11, u12, u13, u14, u15⟩ : w2.cell? ⟨w.heap.size, 1, none⟩ = some (.string (bs name)) ∧ w2.cell? ⟨w.heap.size, 6, none⟩ = some (.int .i64 k1) ∧ w2.cell? ⟨w.heap.size, 7, none⟩ = some (.int .u32 (n1 : Nat)) ∧ w2.cell? ⟨w.heap.size, 8, none⟩ = some (.int .i64 o1) ∧ w2.cell? ⟨w.heap.size, 9, none⟩ = some (.string (bs m1)) ∧ w2.cell? ⟨w.heap.size, 10, none⟩ = some (.slice a1 l1.length c1) ∧ w2.cell? ⟨w.heap.size, 11, none⟩ = some (.int .i64 k2) ∧ w2.cell? ⟨w.heap.size, 12, none⟩ = some (.int .u32 (n2 : Nat)) ∧ w2.cell? ⟨w.heap.size, 13, none⟩ = some (.int .i64 o2) ∧ w2.cell? ⟨w.heap.size, 14, none⟩ = some (.string (bs m2)) ∧ w2.cell? ⟨w.heap.size, 15, none⟩ = some (.slice a2 l2.length c2) := ⟨(R2.cell 1).trans q1, (R2.cell 6).trans q6, (R2.cell 7).trans q7, (R2.cell 8).trans q8, (R2.cell 9).trans q9, (R2.cell 10).trans q10, (R2.cell 11).trans q11, (R2.cell 12).trans q12, (R2.cell 13).trans q13, (R2.cell 14).trans q14, (R2.cell 15).trans q15⟩) | (refine step_call rfl 90 _ _ rfl #[exV k1 n1 o1 m1 a1 l1.length c1] (by simp [go_sem, Act.eval]) ?_; refine (HN1.out _ R2).mono ?_; rintro e w3 hG3; obtain rfl := hG3.bad rfl; refine (fun (_ : wpAny Tryz.prog Region.Mode.any #[] (fun _ _ _ => True) 0 #[] ⟨#[], []⟩ w1) => ⟨rfl, .ofBad HF.out (bl_then R2.bl hG3.below)⟩) ?_))
  all_goals trivial
set_option maxRecDepth 100000 in
set_option maxHeartbeats 2000000 in
theorem stmt_put_e {B : Nat} {S : Nat → Prop} (cs : Array Value) (name : List UInt8) (sec : Bool) (len fr to k1 : Int) (n1 : Nat) (o1 : Int) (m1 : List UInt8) (l1 : List Ex) (k2 : Int) (n2 : Nat) (o2 : Int) (m2 : List UInt8) (l2 : List Ex) (body els : List Sm) (a1 : Option Addr) (c1 : Nat) (a2 : Option Addr) (c2 : Nat) (a3 : Option Addr) (c3 : Nat) (a4 : Option Addr) (c4 : Nat) (w : World)
    (hcs : cs = smA 4 name sec len fr to k1 n1 o1 m1 a1 l1.length c1 k2 n2 o2 m2 a2 l2.length c2 a3 body.length c3 a4 els.length c4) (hg : Glob B w) (hr1 : exR w S a1 l1) (hc1 : l1.length ≤ c1) (hm1 : exW (.mk k1 n1 o1 m1 l1) ≤ 1000000) (hok1 : exOk (.mk k1 n1 o1 m1 l1)) (hr2 : exR w S a2 l2) (hc2 : l2.length ≤ c2) (hm2 : exW (.mk k2 n2 o2 m2 l2) ≤ 1000000) (hok2 : exOk (.mk k2 n2 o2 m2 l2)) (hn : isName name = true) (il1 : Bool) (wd1 : List UInt8) (ks1 : List Nd) (p1 : Int) (hs1 : shE (.mk k1 n1 o1 m1 l1) = some (.mk il1 wd1 ks1 p1)) (hs2 : shE (.mk k2 n2 o2 m2 l2) = none) :
    Calls Tryz.prog 89 #[.agg cs] w (Shows NdV w (shS (.mk 4 name sec len fr to (.mk k1 n1 o1 m1 l1) (.mk k2 n2 o2 m2 l2) body els))) := by
  have HF : Hid (shS (.mk 4 name sec len fr to (.mk k1 n1 o1 m1 l1) (.mk k2 n2 o2 m2 l2) body els) = none) := by
    show _ = _
    rw [shS, if_neg (by omega), if_neg (by omega), if_neg (by omega), if_pos rfl, shName, if_pos hn, hs1, hs2]; rfl
  have HN1 : Hid (∀ w1, St w cs w1 → Calls Tryz.prog 90 #[exV k1 n1 o1 m1 a1 l1.length c1] w1 (Shows NdV w1 (some (.mk il1 wd1 ks1 p1)))) := fun w1 h1 => by
    rw [← hs1]
    exact expr_any _ w1 _ hm1 hok1 (hg.below h1.bl) ⟨a1, c1, rfl, hc1, exR_mono (T := S) (fun i hi hlt => ⟨hi, h1.bl.block i hlt⟩) hr1⟩
  have HN2 : Hid (∀ w1, St w cs w1 → Calls Tryz.prog 90 #[exV k2 n2 o2 m2 a2 l2.length c2] w1 (Shows NdV w1 (none))) := fun w1 h1 => by
    rw [← hs2]
    exact expr_any _ w1 _ hm2 hok2 (hg.below h1.bl) ⟨a2, c2, rfl, hc2, exR_mono (T := S) (fun i hi hlt => ⟨hi, h1.bl.block i hlt⟩) hr2⟩
  have hnm := nameNode_any name
  rw [shName, if_pos hn] at hnm
  have q0 : cs[0]? = some (.int .i64 4) := by rw [hcs]; rfl
  have q1 : cs[1]? = some (.string (bs name)) := by rw [hcs]; rfl
  have q6 : cs[6]? = some (.int .i64 k1) := by rw [hcs]; rfl
  have q7 : cs[7]? = some (.int .u32 (n1 : Nat)) := by rw [hcs]; rfl
  have q8 : cs[8]? = some (.int .i64 o1) := by rw [hcs]; rfl
  have q9 : cs[9]? = some (.string (bs m1)) := by rw [hcs]; rfl
  have q10 : cs[10]? = some (.slice a1 l1.length c1) := by rw [hcs]; rfl
  have q11 : cs[11]? = some (.int .i64 k2) := by rw [hcs]; rfl
  have q12 : cs[12]? = some (.int .u32 (n2 : Nat)) := by rw [hcs]; rfl
  have q13 : cs[13]? = some (.int .i64 o2) := by rw [hcs]; rfl
  have q14 : cs[14]? = some (.string (bs m2)) := by rw [hcs]; rfl
  have q15 : cs[15]? = some (.slice a2 l2.length c2) := by rw [hcs]; rfl
  have HCS : Hid (cs = smA 4 name sec len fr to k1 n1 o1 m1 a1 l1.length c1 k2 n2 o2 m2 a2 l2.length c2 a3 body.length c3 a4 els.length c4) := hcs
  have hia : (Tryz.prog.info? 110).map (·.size) = some cs.size := by rw [hcs]; exact info_stmt
  have hzs : zS.size = cs.size := by rw [hcs]; rfl
  have hone : cs.all (·.oneCell') = true := by rw [hcs]; simp [smA, Value.oneCell']
  clear hcs hr1 hm1 hok1 hc1 hr2 hm2 hok2 hg hc2 hn hs1 hs2
  obtain ⟨w1, hw1⟩ : ∃ w1, w1 = st0 w cs := ⟨_, rfl⟩
  have R0 : St w cs w1 := by rw [hw1]; exact St.start w cs
  have HW1 : Hid (w1 = ((((w.alloc (.cells cs 110)).alloc nd0).alloc nd0).alloc (.cells zS 110)).setRow (w.heap.size + 3) cs) := hw1
  clear hw1
  have hbx : (((w.alloc (.cells cs 110)).alloc nd0).alloc nd0).heap[w.heap.size]? = some (.cells cs 110 (0, 0)) := by
    rw [heap_alloc_old _ _ (by simp; omega), heap_alloc_old _ _ (by simp)]; exact heap_alloc_new w _
  have hmo : ((((w.alloc (.cells cs 110)).alloc nd0).alloc nd0).alloc (.cells zS 110)).heap[w.heap.size + 3]? = some (.cells zS 110 (0, 0)) := by
    have := heap_alloc_new (((w.alloc (.cells cs 110)).alloc nd0).alloc nd0) (.cells zS 110)
    simpa using this
  have cb := R0.cell
  have sz := R0.lt
  have R1 : St w cs w1.drew := R0.on (drew_bl w1)
  go_enter Tryz.func89, Tryz.ntmps89
  go_wp2_with (first | (refine wpList_load_row rfl 110 (.tmp 1) rfl w.heap.size rfl 110 cs (0, 0) _ hbx Tryz.underlying110 rfl hia ?_) | (refine wpList_store_row rfl 110 (.tmp 4) _ rfl (w.heap.size + 3) cs rfl rfl 110 zS hmo hia hzs hone ?_; rw [← HW1.out]; clear hbx hmo))
  obtain ⟨t1, t6, t7, t8, t9, t10, t11, t12, t13, t14, t15⟩ : w1.cell? ⟨w.heap.size, 1, none⟩ = some (.string (bs name)) ∧ w1.cell? ⟨w.heap.size, 6, none⟩ = some (.int .i64 k1) ∧ w1.cell? ⟨w.heap.size, 7, none⟩ = some (.int .u32 (n1 : Nat)) ∧ w1.cell? ⟨w.heap.size, 8, none⟩ = some (.int .i64 o1) ∧ w1.cell? ⟨w.heap.size, 9, none⟩ = some (.string (bs m1)) ∧ w1.cell? ⟨w.heap.size, 10, none⟩ = some (.slice a1 l1.length c1) ∧ w1.cell? ⟨w.heap.size, 11, none⟩ = some (.int .i64 k2) ∧ w1.cell? ⟨w.heap.size, 12, none⟩ = some (.int .u32 (n2 : Nat)) ∧ w1.cell? ⟨w.heap.size, 13, none⟩ = some (.int .i64 o2) ∧ w1.cell? ⟨w.heap.size, 14, none⟩ = some (.string (bs m2)) ∧ w1.cell? ⟨w.heap.size, 15, none⟩ = some (.slice a2 l2.length c2) := ⟨(R0.cell 1).trans q1, (R0.cell 6).trans q6, (R0.cell 7).trans q7, (R0.cell 8).trans q8, (R0.cell 9).trans q9, (R0.cell 10).trans q10, (R0.cell 11).trans q11, (R0.cell 12).trans q12, (R0.cell 13).trans q13, (R0.cell 14).trans q14, (R0.cell 15).trans q15⟩
  clear cb
  go_region_law (first | (refine step_call rfl 77 _ _ rfl #[.string (bs name)] (by simp [go_sem, Act.eval]) ?_; refine (hnm _).mono ?_; rintro e w2 hG2; obtain ⟨v2, rfl, a21, k21, rfl, hc21, hr21⟩ := hG2.ok _ rfl; have R2 := R1.on hG2.below; obtain ⟨u1, u6, u7, u8, u9, u10, u11, u12, u13, u14, u15⟩ : w2.cell? ⟨w.heap.size, 1, none⟩ = some (.string (bs name)) ∧ w2.cell? ⟨w.heap.size, 6, none⟩ = some (.int .i64 k1) ∧ w2.cell? ⟨w.heap.size, 7, none⟩ = some (.int .u32 (n1 : Nat)) ∧ w2.cell? ⟨w.heap.size, 8, none⟩ = some (.int .i64 o1) ∧ w2.cell? ⟨w.heap.size, 9, none⟩ = some (.string (bs m1)) ∧ w2.cell? ⟨w.heap.size, 10, none⟩ = some (.slice a1 l1.length c1) ∧ w2.cell? ⟨w.heap.size, 11, none⟩ = some (.int .i64 k2) ∧ w2.cell? ⟨w.heap.size, 12, none⟩ = some (.int .u32 (n2 : Nat)) ∧ w2.cell? ⟨w.heap.size, 13, none⟩ = some (.int .i64 o2) ∧ w2.cell? ⟨w.heap.size, 14, none⟩ = some (.string (bs m2)) ∧ w2.cell? ⟨w.heap.size, 15, none⟩ = some (.slice a2 l2.length c2) := ⟨(R2.cell 1).trans q1, (R2.cell 6).trans q6, (R2.cell 7).trans q7, (R2.cell 8).trans q8, (R2.cell 9).trans q9, (R2.cell 10).trans q10, (R2.cell 11).trans q11, (R2.cell 12).trans q12, (R2.cell 13).trans q13, (R2.cell 14).trans q14, (R2.cell 15).trans q15⟩) | (refine step_call rfl 90 _ _ rfl #[exV k1 n1 o1 m1 a1 l1.length c1] (by simp [go_sem, Act.eval]) ?_; refine (HN1.out _ R2).mono ?_; rintro e w3 hG3; obtain ⟨v3, rfl, a31, k31, rfl, hc31, hr31⟩ := hG3.ok _ rfl; have R3 := R2.on hG3.below; obtain ⟨y1, y6, y7, y8, y9, y10, y11, y12, y13, y14, y15⟩ : w3.cell? ⟨w.heap.size, 1, none⟩ = some (.string (bs name)) ∧ w3.cell? ⟨w.heap.size, 6, none⟩ = some (.int .i64 k1) ∧ w3.cell? ⟨w.heap.size, 7, none⟩ = some (.int .u32 (n1 : Nat)) ∧ w3.cell? ⟨w.heap.size, 8, none⟩ = some (.int .i64 o1) ∧ w3.cell? ⟨w.heap.size, 9, none⟩ = some (.string (bs m1)) ∧ w3.cell? ⟨w.heap.size, 10, none⟩ = some (.slice a1 l1.length c1) ∧ w3.cell? ⟨w.heap.size, 11, none⟩ = some (.int .i64 k2) ∧ w3.cell? ⟨w.heap.size, 12, none⟩ = some (.int .u32 (n2 : Nat)) ∧ w3.cell? ⟨w.heap.size, 13, none⟩ = some (.int .i64 o2) ∧ w3.cell? ⟨w.heap.size, 14, none⟩ = some (.string (bs m2)) ∧ w3.cell? ⟨w.heap.size, 15, none⟩ = some (.slice a2 l2.length c2) := ⟨(R3.cell 1).trans q1, (R3.cell 6).trans q6, (R3.cell 7).trans q7, (R3.cell 8).trans q8, (R3.cell 9).trans q9, (R3.cell 10).trans q10, (R3.cell 11).trans q11, (R3.cell 12).trans q12, (R3.cell 13).trans q13, (R3.cell 14).trans q14, (R3.cell 15).trans q15⟩) | (refine step_call rfl 90 _ _ rfl #[exV k2 n2 o2 m2 a2 l2.length c2] (by simp [go_sem, Act.eval]) ?_; refine (HN2.out _ R3).mono ?_; rintro e w4 hG4; obtain rfl := hG4.bad rfl; refine (fun (_ : wpAny Tryz.prog Region.Mode.any #[] (fun _ _ _ => True) 0 #[] ⟨#[], []⟩ w1) => ⟨rfl, .ofBad HF.out (bl_then R3.bl hG4.below)⟩) ?_))
  all_goals trivial
end Go.Proofs.YtbpdhegfdmppgaaGreatDoor.Sh

/- CONTRACT of forNode, where that of each at its statements holds. -/
namespace Go.Proofs.YtbpdhegfdmppgaaGreatDoor.Sh
open Go.ChangeShapes Go.WideShapes Go.ChangeAt Go.RowKit

structure Fo (w : World) (cs : Array Value) (w' : World) : Prop where
  box : w'.heap[w.heap.size]? = some (.cells cs 110)
  res : w'.heap[w.heap.size + 1]? = some nd0
  bl : Below w.heap.size w w'
theorem Fo.on {w : World} {cs : Array Value} {w1 w2 : World} (h : Fo w cs w1) (hb : Below w1.heap.size w1 w2) : Fo w cs w2 :=
  ⟨by rw [hb.block _ (lt_of_some h.box)]; exact h.box, by rw [hb.block _ (lt_of_some h.res)]; exact h.res, bl_then h.bl hb⟩
theorem Fo.alloc {w : World} {cs : Array Value} {w1 : World} (h : Fo w cs w1) (o : Obj) : Fo w cs (w1.alloc o) := h.on ((Below.refl _ _).alloc (Nat.le_refl _) o)
theorem Fo.lt {w : World} {cs : Array Value} {w1 : World} (h : Fo w cs w1) : w.heap.size + 2 ≤ w1.heap.size := lt_of_some h.res
theorem Fo.cell {w : World} {cs : Array Value} {w1 : World} (h : Fo w cs w1) (i : Nat) : w1.cell? ⟨w.heap.size, i, none⟩ = cs[i]? := by simp [World.cell?, h.box]
theorem Fo.start (w : World) (cs : Array Value) : Fo w cs ((w.alloc (.cells cs 110)).alloc nd0) := ⟨(at_two w _ _).1, (at_two w _ _).2, bl_two w _ _⟩
theorem Fo.grow {w : World} {cs : Array Value} {w1 w2 : World} {row : Option Nat} (h : Fo w cs w1) (hg : w1.grownBy w2 row) (hr : ∀ k, row = some k → w.heap.size + 2 ≤ k) : Fo w cs w2 := by
  have hb : ∀ k, k < w.heap.size + 2 → w2.heap[k]? = w1.heap[k]? := fun k hk => hg.block k (Nat.lt_of_lt_of_le hk h.lt) fun e => by have := hr k e.symm; omega
  exact ⟨by rw [hb _ (by omega)]; exact h.box, by rw [hb _ (by omega)]; exact h.res, ⟨hg.os.trans h.bl.os, hg.tape.trans h.bl.tape, hg.output.trans h.bl.output, Nat.le_trans h.bl.size hg.size, fun k hk => by rw [hb k (by omega)]; exact h.bl.block k hk⟩⟩
theorem own_n (w : World) (base : Nat) (e : TypeId) (size n : Nat) (cs : List Value) (hb : base ≤ w.heap.size) (hs : cs.length = n * size) (hn : n ≤ 1000) : (w.alloc (.cells cs.toArray e)).ownsRow base e size (.slice (some ⟨w.heap.size, 0, none⟩) n n) n cs :=
  ⟨hs, .inr ⟨w.heap.size, n, cs.toArray, rfl, hb, heap_alloc_new w _, Nat.le_refl _, by unfold maxLen; omega, by simpa using hs, List.take_of_length_le (by simp; omega)⟩⟩
/-- Nodes ahead of others, appended. -/
theorem lead_rows {w3 w4 : World} {base g : Nat} {S S' : Nat → Prop} {l zs : List Nd} {xs cs : List Value} {y : Option Addr} {c n : Nat} (hn : n = l.length + zs.length) (hx : kNd.lay w3 S' xs l) (hlay : kNd.lay w3 S cs zs) (hg : w3.grownBy w4 (some g)) (hS : ∀ b, S b → b < w3.heap.size ∧ b ≠ g) (hS' : ∀ b, S' b → b < w3.heap.size ∧ b ≠ g)
    (hown : w4.ownsRow base 66 4 (.slice y n c) n (xs ++ cs)) : kNd.row w4 (fun b => (S' b ∨ S b) ∨ base ≤ b) y (l ++ zs) ∧ n ≤ c := by
  subst hn
  have hg' : ∀ {b : Nat}, b < w3.heap.size ∧ b ≠ g → w4.heap[b]? = w3.heap[b]? := fun {b} h => hg.block b h.1 fun e => h.2 (by cases e; rfl)
  rw [← List.length_append] at hown
  have hl4 : kNd.lay w4 (fun b => S' b ∨ S b) (xs ++ cs) (l ++ zs) := kNd.lay_cat (kNd.lay_mono hlay fun b hb _ => ⟨.inr hb, hg' (hS b hb)⟩) (kNd.lay_mono hx fun b hb _ => ⟨.inl hb, hg' (hS' b hb)⟩)
  obtain ⟨a', c', he, hrow, hc'⟩ := kNd.own_rd (t := 66) (S := fun b => S' b ∨ S b) (T := fun b => (S' b ∨ S b) ∨ base ≤ b) ⟨_, hown, hl4⟩ (fun _ hb => .inl hb) fun g hg => .inr (hown.lt g hg).1
  injection he with h1 h2 h3
  subst h1 h3
  rw [List.length_append] at hc'
  exact ⟨hrow, hc'⟩
theorem form_rows {w4 : World} {S : Nat → Prop} {s : List UInt8} {l : List Nd} {y : Option Addr} {c n : Nat} (hn : n = l.length) (h : kNd.row w4 S y l) (hl : n ≤ 1000000) : Calls Tryz.prog 76 #[.string (bs s), .slice y n c] w4 fun e w' => (∃ v, e = .returned v ∧ NdV w' (fun b => S b ∨ w4.heap.size ≤ b) v (fm s l)) ∧ Below w4.heap.size w4 w' := by
  subst hn
  exact form_any s y l c w4 h hl
def forR (name : List UInt8) (fr to : Int) (body : List Sm) : Option Nd := (shName name).bind fun a => (shNum fr 0 64).bind fun b => (shNum to 0 64).bind fun c => (shSs body).map fun d => fm [102, 111, 114] (a :: b :: c :: d)
abbrev EachAt (w : World) (cs : Array Value) (a3 : Option Addr) (body : List Sm) (c3 : Nat) (res : Option (List Nd)) : Prop := ∀ w1, Fo w cs w1 → Calls Tryz.prog 88 #[.slice a3 body.length c3, .func (.func 89) #[] #[]] w1 (Shows kNd.rd w1 res)
set_option maxRecDepth 100000 in
set_option maxHeartbeats 2000000 in
theorem for_yes (cs : Array Value) (name : List UInt8) (fr to : Int) (body : List Sm) (a3 : Option Addr) (c3 : Nat) (w : World) (q1 : cs[1]? = some (.string (bs name))) (q4 : cs[4]? = some (.int .i64 fr)) (q5 : cs[5]? = some (.int .i64 to)) (q16 : cs[16]? = some (.slice a3 body.length c3))
    (hn : isName name = true) (il2 : Bool) (wd2 : List UInt8) (ks2 : List Nd) (p2 : Int) (hs2 : shNum fr 0 64 = some (.mk il2 wd2 ks2 p2)) (il3 : Bool) (wd3 : List UInt8) (ks3 : List Nd) (p3 : Int) (hs3 : shNum to 0 64 = some (.mk il3 wd3 ks3 p3)) (res : Option (List Nd)) (hs : shSs body = res) (hE : EachAt w cs a3 body c3 res) (hz : ∀ z, res = some z → z.length ≤ 100000) :
    Calls Tryz.prog 109 #[.agg cs] w (Shows NdV w (forR name fr to body)) := by
  have hnm := nameNode_any name
  rw [shName, if_pos hn] at hnm
  have hn2 := number_any fr 0 64 (by omega) (by omega)
  rw [hs2] at hn2
  have hn3 := number_any to 0 64 (by omega) (by omega)
  rw [hs3] at hn3
  have HE : Hid _ := hE
  have R0 := Fo.start w cs
  have HFR : Hid (forR name fr to body = res.map fun d => fm [102, 111, 114] (.mk false name [] 0 :: .mk il2 wd2 ks2 p2 :: .mk il3 wd3 ks3 p3 :: d)) := by show _ = _; rw [forR, shName, if_pos hn, hs2, hs3, hs]; rfl
  clear hE hn hs2 hs3 hs
  go_enter Tryz.func109, Tryz.ntmps109
  go_wp2_with fail
  generalize (w.alloc (.cells cs 110)).alloc nd0 = w1 at R0 ⊢
  have R1 : Fo w cs w1.drew := R0.on (drew_bl w1)
  have sz := R0.lt
  have s1 : w1.cell? ⟨w.heap.size, 1, none⟩ = some (.string (bs name)) ∧ w1.cell? ⟨w.heap.size, 4, none⟩ = some (.int .i64 fr) ∧ w1.cell? ⟨w.heap.size, 5, none⟩ = some (.int .i64 to) := ⟨(R0.cell 1).trans q1, (R0.cell 4).trans q4, (R0.cell 5).trans q5⟩
  go_region_held3 (fun w' => w'.cell? ⟨w.heap.size, 1, none⟩ = some (.string (bs name)) ∧ w'.cell? ⟨w.heap.size, 4, none⟩ = some (.int .i64 fr) ∧ w'.cell? ⟨w.heap.size, 5, none⟩ = some (.int .i64 to))
    (first | with_reducible exact ⟨((R4.alloc _).cell 1).trans q1, ((R4.alloc _).cell 4).trans q4, ((R4.alloc _).cell 5).trans q5⟩ | with_reducible exact ⟨(R4.cell 1).trans q1, (R4.cell 4).trans q4, (R4.cell 5).trans q5⟩ | with_reducible exact ⟨(R3.cell 1).trans q1, (R3.cell 4).trans q4, (R3.cell 5).trans q5⟩ | with_reducible exact ⟨(R2.cell 1).trans q1, (R2.cell 4).trans q4, (R2.cell 5).trans q5⟩ | with_reducible exact ⟨(R1.cell 1).trans q1, (R1.cell 4).trans q4, (R1.cell 5).trans q5⟩ | go_keep)
    (first | (go_at_call 77; refine (hnm _).mono ?_; rintro e w2 hG2; obtain ⟨v2, rfl, a21, k21, rfl, hc21, hr21⟩ := hG2.ok _ rfl; have R2 := R1.on hG2.below; have sz2 := R2.lt) | (go_at_call_of 108 (Value.int .i64 fr); refine (hn2 _).mono ?_; rintro e w3 hG3; obtain ⟨v3, rfl, a31, k31, rfl, hc31, hr31⟩ := hG3.ok _ rfl; have R3 := R2.on hG3.below; have sz3 := R3.lt; clear hn2) | (go_at_call_of 108 (Value.int .i64 to); refine (hn3 _).mono ?_; rintro e w4 hG4; obtain ⟨v4, rfl, a41, k41, rfl, hc41, hr41⟩ := hG4.ok _ rfl; have R4 := R3.on hG4.below; have sz4 := R4.lt))
  have hl3 : kNd.lay w4 (fun b => w.heap.size + 2 ≤ b ∧ b < w4.heap.size) [.bool false, .string (bs name), .slice a21 ([] : List Nd).length k21, .int .i64 0, .bool il2, .string (bs wd2), .slice a31 ks2.length k31, .int .i64 p2, .bool il3, .string (bs wd3), .slice a41 ks3.length k41, .int .i64 p3] [.mk false name [] 0, .mk il2 wd2 ks2 p2, .mk il3 wd3 ks3 p3] :=
    ⟨_, _, rfl, nd_C hc21 (kNd.row_mono (by decide) (row_on (row_on hr21 hG3.below) hG4.below) (fun i hi hlt => ⟨⟨by have : w1.heap.size ≤ i := hi; omega, hlt⟩, rfl⟩)), _, _, rfl, nd_C hc31 (kNd.row_mono (by decide) (row_on hr31 hG4.below) (fun i hi hlt => ⟨⟨by omega, hlt⟩, rfl⟩)), _, _, rfl, nd_C hc41 (kNd.row_mono (by decide) hr41 (fun i hi hlt => ⟨⟨by omega, hlt⟩, rfl⟩)), rfl⟩
  have hown5 := own_n w4 w4.heap.size 66 4 3 [.bool false, .string (bs name), .slice a21 ([] : List Nd).length k21, .int .i64 0, .bool il2, .string (bs wd2), .slice a31 ks2.length k31, .int .i64 p2, .bool il3, .string (bs wd3), .slice a41 ks3.length k41, .int .i64 p3] (Nat.le_refl _) rfl (by omega)
  have R5 := R4.alloc (.cells [.bool false, .string (bs name), .slice a21 ([] : List Nd).length k21, .int .i64 0, .bool il2, .string (bs wd2), .slice a31 ks2.length k31, .int .i64 p2, .bool il3, .string (bs wd3), .slice a41 ks3.length k41, .int .i64 p3].toArray 66)
  have hl5 := kNd.lay_mono (w' := w4.alloc (.cells [.bool false, .string (bs name), .slice a21 ([] : List Nd).length k21, .int .i64 0, .bool il2, .string (bs wd2), .slice a31 ks2.length k31, .int .i64 p2, .bool il3, .string (bs wd3), .slice a41 ks3.length k41, .int .i64 p3].toArray 66)) hl3 (fun b hb hlt => ⟨hb, heap_alloc_old w4 _ hlt⟩)
  have hz5 : (w4.alloc (.cells [.bool false, .string (bs name), .slice a21 ([] : List Nd).length k21, .int .i64 0, .bool il2, .string (bs wd2), .slice a31 ks2.length k31, .int .i64 p2, .bool il3, .string (bs wd3), .slice a41 ks3.length k41, .int .i64 p3].toArray 66)).heap.size = w4.heap.size + 1 := by simp
  generalize w4.alloc (.cells [.bool false, .string (bs name), .slice a21 ([] : List Nd).length k21, .int .i64 0, .bool il2, .string (bs wd2), .slice a31 ks2.length k31, .int .i64 p2, .bool il3, .string (bs wd3), .slice a41 ks3.length k41, .int .i64 p3].toArray 66) = w5 at hown5 R5 hl5 hz5 ⊢
  generalize ([.bool false, .string (bs name), .slice a21 ([] : List Nd).length k21, .int .i64 0, .bool il2, .string (bs wd2), .slice a31 ks2.length k31, .int .i64 p2, .bool il3, .string (bs wd3), .slice a41 ks3.length k41, .int .i64 p3] : List Value) = X at hown5 hl5
  have HL5 : Hid _ := hl5
  have HO5 : Hid _ := hown5
  have cb5 := R5.cell
  have hz5' : w.heap.size < w5.heap.size := by omega
  clear hl5 hown5 hl3 R4 R3 R2 R1 R0 hG2 hG3 hG4 hr21 hr31 hr41 s1 hnm hn3 hc21 hc31 hc41
  cases res with
  | none =>
    go_wp2_with (first | (go_at_call 88; refine (HE.out _ R5).mono ?_; rintro e w6 hG6; obtain rfl := hG6.bad rfl))
    exact ⟨rfl, .ofBad (by rw [HFR.out]; rfl) (bl_then R5.bl hG6.below)⟩
  | some z =>
    have hzl := hz z rfl
    clear hz
    go_wp2_with (first | (go_at_call 88; refine (HE.out _ R5).mono ?_; rintro e w6 hG6; obtain ⟨v6, rfl, a6, k6, rfl, hr6, hc6⟩ := hG6.ok _ rfl; refine Hid.out ?_))
    refine Lib.hid ?_
    have hb6 := hG6.below
    have R6 := R5.on hb6
    have hz6 := hb6.size
    obtain ⟨csz, hlz, hsrc⟩ := kNd.src (c := k6) (tx := 23) Tryz.underlying23 (kNd.row_old (by decide) hr6)
    have HLZ : Hid _ := hlz
    have HL6 : Hid (kNd.lay w6 (fun b => w.heap.size + 2 ≤ b ∧ b < w4.heap.size) X [.mk false name [] 0, .mk il2 wd2 ks2 p2, .mk il3 wd3 ks3 p3]) := kNd.lay_mono HL5.out fun b hb hlt => ⟨hb, hb6.block b hlt⟩
    have hown6 := own_on HO5.out hb6
    clear hlz hG6 cb5 hr6
    go_wp2_with (first | (at_builtin; refine wpList_append_src nd_info rfl Tryz.underlying23 (by decide) _ rfl _ _ rfl w4.heap.size (Value.slice (some ⟨w4.heap.size, 0, none⟩) 3 3) 3 X rfl hown6 _ z.length csz rfl hsrc (by omega) (by omega) ?_; intro y7 k7 w7 hown7 hgrow7 hat7; refine Hid.out ?_) | go_in)
    refine Lib.hid ?_
    have R7 := R6.grow hgrow7 (fun k e => by simp [Value.ownBlock] at e; omega)
    have hz7 := hgrow7.size
    obtain ⟨hrow7, hc7⟩ := lead_rows (g := w4.heap.size) (l := [.mk false name [] 0, .mk il2 wd2 ks2 p2, .mk il3 wd3 ks3 p3]) (n := 3 + z.length) rfl HL6.out HLZ.out hgrow7 (fun b hb => ⟨hb.2, by have := hb.1; omega⟩) (fun b hb => ⟨by omega, by omega⟩) hown7
    have hfo := form_rows (s := [102, 111, 114]) (c := k7) (l := [.mk false name [] 0, .mk il2 wd2 ks2 p2, .mk il3 wd3 ks3 p3] ++ z) (n := 3 + z.length) (by simp; omega) (kNd.row_mono (T := fun b => w.heap.size + 2 ≤ b) (by decide) hrow7 fun b hb _ => ⟨by rcases hb with (hb | hb) | hb; exact hb.1; (have := hb.1; omega); omega, rfl⟩) (by omega)
    clear hrow7 hown7 hgrow7 hat7 hsrc hown6
    go_wp2_with (first | (go_at_call 76; refine hfo.mono ?_; rintro e w8 ⟨⟨v8, rfl, a8, k8, rfl, hc8, hr8⟩, hb8⟩; refine Hid.out ?_))
    refine Lib.hid ?_
    have R8 := R7.on hb8
    have hres8 := R8.res
    have hlt8 := R8.lt
    have HB8 : Hid (Below w.heap.size w w8) := R8.bl
    have HR8 : Hid (kNd.row w8 (fun b => w.heap.size + 2 ≤ b ∨ w7.heap.size ≤ b) a8 (lf [102, 111, 114] :: ([.mk false name [] 0, .mk il2 wd2 ks2 p2, .mk il3 wd3 ks3 p3] ++ z))) := hr8
    obtain ⟨d0, d1, d2, d3, g0, g1, g2, g3⟩ := nd_free hres8
    have hlt8' : w.heap.size + 1 < w8.heap.size := by omega
    have HZ7 : Hid (w.heap.size + 2 ≤ w7.heap.size) := R7.lt
    clear hr8 hb8 R8 R7 hfo R6 R5
    go_wp2_with fail
    exact bodyPost_ret_by (results_row Tryz.results109 rfl (load_nd (set4c hres8) rfl)) rfl (.ofOk (x := fm [102, 111, 114] ([.mk false name [] 0, .mk il2 wd2 ks2 p2, .mk il3 wd3 ks3 p3] ++ z)) (by rw [HFR.out]; rfl) (bl_set4 HB8.out _ _ _ _ _ (by omega)) ⟨a8, k8, rfl, hc8, kNd.row_mono (by decide) HR8.out fun i hi _ => by
      have h2 : w.heap.size + 2 ≤ i := by
        rcases hi with h | h
        · exact h
        · have := HZ7.out; omega
      exact ⟨by omega, set4o (by omega)⟩⟩)
set_option maxRecDepth 100000 in
set_option maxHeartbeats 2000000 in
theorem for_name (cs : Array Value) (name : List UInt8) (fr to : Int) (body : List Sm) (w : World) (q1 : cs[1]? = some (.string (bs name))) (q4 : cs[4]? = some (.int .i64 fr)) (q5 : cs[5]? = some (.int .i64 to)) (hn : isName name = false) :
    Calls Tryz.prog 109 #[.agg cs] w (Shows NdV w (forR name fr to body)) := by
  have HF : Hid (forR name fr to body = none) := by show _ = _; rw [forR, shName, hn]; rfl
  have hnm := nameNode_any name
  have hns : shName name = none := by rw [shName, hn]; rfl
  rw [hns] at hnm
  clear hn hns
  have R0 := Fo.start w cs
  go_enter Tryz.func109, Tryz.ntmps109
  go_wp2_with fail
  generalize (w.alloc (.cells cs 110)).alloc nd0 = w1 at R0 ⊢
  have R1 : Fo w cs w1.drew := R0.on (drew_bl w1)
  have t1 := (R0.cell 1).trans q1
  have t4 := (R0.cell 4).trans q4
  have t5 := (R0.cell 5).trans q5
  go_region_law (first | (refine step_call rfl 77 _ _ rfl #[.string (bs name)] (by simp [go_sem, Act.eval]) ?_; refine (hnm _).mono ?_; rintro e w2 hG2; obtain rfl := hG2.bad rfl; refine (fun (_ : wpAny Tryz.prog Region.Mode.any #[] (fun _ _ _ => True) 0 #[] ⟨#[], []⟩ w1) => ⟨rfl, .ofBad HF.out (bl_then R1.bl hG2.below)⟩) ?_))
  all_goals trivial
set_option maxRecDepth 100000 in
set_option maxHeartbeats 2000000 in
theorem for_fr (cs : Array Value) (name : List UInt8) (fr to : Int) (body : List Sm) (w : World) (q1 : cs[1]? = some (.string (bs name))) (q4 : cs[4]? = some (.int .i64 fr)) (q5 : cs[5]? = some (.int .i64 to)) (hn : isName name = true) (hs2 : shNum fr 0 64 = none) :
    Calls Tryz.prog 109 #[.agg cs] w (Shows NdV w (forR name fr to body)) := by
  have HF : Hid (forR name fr to body = none) := by show _ = _; rw [forR, shName, if_pos hn, hs2]; rfl
  have hnm := nameNode_any name
  rw [shName, if_pos hn] at hnm
  have hn2 := number_any fr 0 64 (by omega) (by omega)
  rw [hs2] at hn2
  clear hn hs2
  have R0 := Fo.start w cs
  go_enter Tryz.func109, Tryz.ntmps109
  go_wp2_with fail
  generalize (w.alloc (.cells cs 110)).alloc nd0 = w1 at R0 ⊢
  have R1 : Fo w cs w1.drew := R0.on (drew_bl w1)
  have t1 := (R0.cell 1).trans q1
  have t4 := (R0.cell 4).trans q4
  have t5 := (R0.cell 5).trans q5
  go_region_law (first | (refine step_call rfl 77 _ _ rfl #[.string (bs name)] (by simp [go_sem, Act.eval]) ?_; refine (hnm _).mono ?_; rintro e w2 hG2; obtain ⟨v2, rfl, a21, k21, rfl, hc21, hr21⟩ := hG2.ok _ rfl; have R2 := R1.on hG2.below; have u1 := (R2.cell 1).trans q1; have u4 := (R2.cell 4).trans q4; have u5 := (R2.cell 5).trans q5) | (refine step_call rfl 108 _ _ rfl #[.int .i64 fr, .int .i64 0, .int .i64 64] (by simp [go_sem, Act.eval]) ?_; refine (hn2 _).mono ?_; rintro e w3 hG3; obtain rfl := hG3.bad rfl; refine (fun (_ : wpAny Tryz.prog Region.Mode.any #[] (fun _ _ _ => True) 0 #[] ⟨#[], []⟩ w1) => ⟨rfl, .ofBad HF.out (bl_then R2.bl hG3.below)⟩) ?_))
  all_goals trivial
set_option maxRecDepth 100000 in
set_option maxHeartbeats 2000000 in
theorem for_to (cs : Array Value) (name : List UInt8) (fr to : Int) (body : List Sm) (w : World) (q1 : cs[1]? = some (.string (bs name))) (q4 : cs[4]? = some (.int .i64 fr)) (q5 : cs[5]? = some (.int .i64 to)) (hn : isName name = true) (il2 : Bool) (wd2 : List UInt8) (ks2 : List Nd) (p2 : Int) (hs2 : shNum fr 0 64 = some (.mk il2 wd2 ks2 p2)) (hs3 : shNum to 0 64 = none) :
    Calls Tryz.prog 109 #[.agg cs] w (Shows NdV w (forR name fr to body)) := by
  have HF : Hid (forR name fr to body = none) := by show _ = _; rw [forR, shName, if_pos hn, hs2, hs3]; rfl
  have hnm := nameNode_any name
  rw [shName, if_pos hn] at hnm
  have hn2 := number_any fr 0 64 (by omega) (by omega)
  rw [hs2] at hn2
  have hn3 := number_any to 0 64 (by omega) (by omega)
  rw [hs3] at hn3
  clear hn hs2 hs3
  have R0 := Fo.start w cs
  go_enter Tryz.func109, Tryz.ntmps109
  go_wp2_with fail
  generalize (w.alloc (.cells cs 110)).alloc nd0 = w1 at R0 ⊢
  have R1 : Fo w cs w1.drew := R0.on (drew_bl w1)
  have t1 := (R0.cell 1).trans q1
  have t4 := (R0.cell 4).trans q4
  have t5 := (R0.cell 5).trans q5
  go_region_law (first | (refine step_call rfl 77 _ _ rfl #[.string (bs name)] (by simp [go_sem, Act.eval]) ?_; refine (hnm _).mono ?_; rintro e w2 hG2; obtain ⟨v2, rfl, a21, k21, rfl, hc21, hr21⟩ := hG2.ok _ rfl; have R2 := R1.on hG2.below; have u1 := (R2.cell 1).trans q1; have u4 := (R2.cell 4).trans q4; have u5 := (R2.cell 5).trans q5) | (refine step_call rfl 108 _ _ rfl #[.int .i64 fr, .int .i64 0, .int .i64 64] (by simp [go_sem, Act.eval]) ?_; refine (hn2 _).mono ?_; rintro e w3 hG3; obtain ⟨v3, rfl, a31, k31, rfl, hc31, hr31⟩ := hG3.ok _ rfl; have R3 := R2.on hG3.below; clear hn2; have y1 := (R3.cell 1).trans q1; have y4 := (R3.cell 4).trans q4; have y5 := (R3.cell 5).trans q5) | (refine step_call rfl 108 _ _ rfl #[.int .i64 to, .int .i64 0, .int .i64 64] (by simp [go_sem, Act.eval]) ?_; refine (hn3 _).mono ?_; rintro e w4 hG4; obtain rfl := hG4.bad rfl; refine (fun (_ : wpAny Tryz.prog Region.Mode.any #[] (fun _ _ _ => True) 0 #[] ⟨#[], []⟩ w1) => ⟨rfl, .ofBad HF.out (bl_then R3.bl hG4.below)⟩) ?_))
  all_goals trivial
theorem forNode_any (cs : Array Value) (name : List UInt8) (fr to : Int) (body : List Sm) (a3 : Option Addr) (c3 : Nat) (w : World) (q1 : cs[1]? = some (.string (bs name))) (q4 : cs[4]? = some (.int .i64 fr)) (q5 : cs[5]? = some (.int .i64 to)) (q16 : cs[16]? = some (.slice a3 body.length c3)) (hE : EachAt w cs a3 body c3 (shSs body)) (hb : body.length ≤ 100000) :
    Calls Tryz.prog 109 #[.agg cs] w (Shows NdV w (forR name fr to body)) := by
  rcases hn : isName name with _ | _
  · exact for_name cs name fr to body w q1 q4 q5 hn
  · cases hs2 : shNum fr 0 64 with
    | none => exact for_fr cs name fr to body w q1 q4 q5 hn hs2
    | some x =>
      obtain ⟨il2, wd2, ks2, p2⟩ := x
      cases hs3 : shNum to 0 64 with
      | none => exact for_to cs name fr to body w q1 q4 q5 hn il2 wd2 ks2 p2 hs2 hs3
      | some y =>
        obtain ⟨il3, wd3, ks3, p3⟩ := y
        exact for_yes cs name fr to body a3 c3 w q1 q4 q5 q16 hn il2 wd2 ks2 p2 hs2 il3 wd3 ks3 p3 hs3 _ rfl hE fun z hz => by
          have := eachO_len shS body z (by rw [← shSs_each]; exact hz)
          omega
end Go.Proofs.YtbpdhegfdmppgaaGreatDoor.Sh

/- CONTRACT of stmtNode at for. -/
namespace Go.Proofs.YtbpdhegfdmppgaaGreatDoor.Sh
open Go.ChangeShapes Go.WideShapes Go.ChangeAt Go.RowKit

theorem for_sh {P : Prop} [Decidable P] {name : List UInt8} {fr to : Int} {body : List Sm} (hP : ¬ P) : ((shName name).bind fun a => (shNum fr 0 64).bind fun b => (shNum to 0 64).bind fun c => (shSs body).bind fun d => if P then some (fm [102, 111, 114] (a :: b :: c :: d)) else none) = none := by
  cases h1 : shName name with
  | none => rfl
  | some x =>
    cases h2 : shNum fr 0 64 with
    | none => rfl
    | some y =>
      cases h3 : shNum to 0 64 with
      | none => rfl
      | some z =>
        cases h4 : shSs body with
        | none => rfl
        | some d => simp [if_neg hP]
theorem for_sh2 {P : Prop} [Decidable P] {name : List UInt8} {fr to : Int} {body : List Sm} {x : Nd} (h : forR name fr to body = some x) (hP : P) : ((shName name).bind fun a => (shNum fr 0 64).bind fun b => (shNum to 0 64).bind fun c => (shSs body).bind fun d => if P then some (fm [102, 111, 114] (a :: b :: c :: d)) else none) = some x := by
  rw [forR] at h
  cases h1 : shName name with
  | none => rw [h1] at h; cases h
  | some x =>
    cases h2 : shNum fr 0 64 with
    | none => rw [h1, h2] at h; cases h
    | some y =>
      cases h3 : shNum to 0 64 with
      | none => rw [h1, h2, h3] at h; cases h
      | some z =>
        cases h4 : shSs body with
        | none => rw [h1, h2, h3, h4] at h; cases h
        | some d =>
          rw [h1, h2, h3, h4] at h
          simp only [Option.bind_some, if_pos hP]
          exact h
set_option maxRecDepth 100000 in
set_option maxHeartbeats 2000000 in
theorem stmt_for_no (cs : Array Value) (name : List UInt8) (sec : Bool) (len fr to k1 : Int) (n1 : Nat) (o1 : Int) (m1 : List UInt8) (l1 : List Ex) (k2 : Int) (n2 : Nat) (o2 : Int) (m2 : List UInt8) (l2 : List Ex) (body els : List Sm) (a1 : Option Addr) (c1 : Nat) (a2 : Option Addr) (c2 : Nat) (a3 : Option Addr) (c3 : Nat) (a4 : Option Addr) (c4 : Nat) (w : World)
    (hcs : cs = smA 5 name sec len fr to k1 n1 o1 m1 a1 l1.length c1 k2 n2 o2 m2 a2 l2.length c2 a3 body.length c3 a4 els.length c4) (hF : ∀ w1, St w cs w1 → Calls Tryz.prog 109 #[.agg cs] w1 (Shows NdV w1 (none))) (hs : forR name fr to body = none) :
    Calls Tryz.prog 89 #[.agg cs] w (Shows NdV w (shS (.mk 5 name sec len fr to (.mk k1 n1 o1 m1 l1) (.mk k2 n2 o2 m2 l2) body els))) := by
  have HF : Hid (shS (.mk 5 name sec len fr to (.mk k1 n1 o1 m1 l1) (.mk k2 n2 o2 m2 l2) body els) = none) := by
    show _ = _
    rw [shS, if_neg (by omega), if_neg (by omega), if_neg (by omega), if_neg (by omega), if_pos rfl]
    rw [forR] at hs
    cases h1 : shName name with
    | none => rfl
    | some x =>
      cases h2 : shNum fr 0 64 with
      | none => rfl
      | some y =>
        cases h3 : shNum to 0 64 with
        | none => rfl
        | some z =>
          cases h4 : shSs body with
          | none => rfl
          | some d => rw [h1, h2, h3, h4] at hs; cases hs
  have HFN : Hid _ := hF
  clear hF hs
  have q0 : cs[0]? = some (.int .i64 5) := by rw [hcs]; rfl
  have q1 : cs[1]? = some (.string (bs name)) := by rw [hcs]; rfl
  have q4 : cs[4]? = some (.int .i64 fr) := by rw [hcs]; rfl
  have q5 : cs[5]? = some (.int .i64 to) := by rw [hcs]; rfl
  have q16 : cs[16]? = some (.slice a3 body.length c3) := by rw [hcs]; rfl
  have HCS : Hid (cs = smA 5 name sec len fr to k1 n1 o1 m1 a1 l1.length c1 k2 n2 o2 m2 a2 l2.length c2 a3 body.length c3 a4 els.length c4) := hcs
  have hia : (Tryz.prog.info? 110).map (·.size) = some cs.size := by rw [hcs]; exact info_stmt
  have hzs : zS.size = cs.size := by rw [hcs]; rfl
  have hone : cs.all (·.oneCell') = true := by rw [hcs]; simp [smA, Value.oneCell']
  clear hcs 
  obtain ⟨w1, hw1⟩ : ∃ w1, w1 = st0 w cs := ⟨_, rfl⟩
  have R0 : St w cs w1 := by rw [hw1]; exact St.start w cs
  have HW1 : Hid (w1 = ((((w.alloc (.cells cs 110)).alloc nd0).alloc nd0).alloc (.cells zS 110)).setRow (w.heap.size + 3) cs) := hw1
  clear hw1
  have hbx : (((w.alloc (.cells cs 110)).alloc nd0).alloc nd0).heap[w.heap.size]? = some (.cells cs 110 (0, 0)) := by
    rw [heap_alloc_old _ _ (by simp; omega), heap_alloc_old _ _ (by simp)]; exact heap_alloc_new w _
  have hmo : ((((w.alloc (.cells cs 110)).alloc nd0).alloc nd0).alloc (.cells zS 110)).heap[w.heap.size + 3]? = some (.cells zS 110 (0, 0)) := by
    have := heap_alloc_new (((w.alloc (.cells cs 110)).alloc nd0).alloc nd0) (.cells zS 110)
    simpa using this
  have cb := R0.cell
  have sz := R0.lt
  have R1 : St w cs w1.drew := R0.on (drew_bl w1)
  go_enter Tryz.func89, Tryz.ntmps89
  have hbx1 : w1.heap[w.heap.size]? = some (.cells cs 110 (0, 0)) := R0.box
  go_wp2_with (first | (refine wpList_load_row rfl 110 (.tmp 1) rfl w.heap.size rfl 110 cs (0, 0) _ ?_ Tryz.underlying110 rfl hia ?_; (first | with_reducible exact hbx | with_reducible exact hbx1)) | (go_at_call 109; refine (HFN.out _ R0).mono ?_; rintro e w2 hG2; obtain rfl := hG2.bad rfl) | (refine wpList_store_row rfl 110 (.tmp 4) _ rfl (w.heap.size + 3) cs rfl rfl 110 zS hmo hia hzs hone ?_; rw [← HW1.out]; clear hbx hmo))
  exact ⟨rfl, .ofBad HF.out (bl_then R0.bl hG2.below)⟩
set_option maxRecDepth 100000 in
set_option maxHeartbeats 2000000 in
theorem stmt_for_yes (cs : Array Value) (name : List UInt8) (sec : Bool) (len fr to k1 : Int) (n1 : Nat) (o1 : Int) (m1 : List UInt8) (l1 : List Ex) (k2 : Int) (n2 : Nat) (o2 : Int) (m2 : List UInt8) (l2 : List Ex) (body els : List Sm) (a1 : Option Addr) (c1 : Nat) (a2 : Option Addr) (c2 : Nat) (a3 : Option Addr) (c3 : Nat) (a4 : Option Addr) (c4 : Nat) (w : World)
    (hcs : cs = smA 5 name sec len fr to k1 n1 o1 m1 a1 l1.length c1 k2 n2 o2 m2 a2 l2.length c2 a3 body.length c3 a4 els.length c4) (il2 : Bool) (wd2 : List UInt8) (ks2 : List Nd) (p2 : Int) (hs : forR name fr to body = some (.mk il2 wd2 ks2 p2)) (hF : ∀ w1, St w cs w1 → Calls Tryz.prog 109 #[.agg cs] w1 (Shows NdV w1 (some (.mk il2 wd2 ks2 p2)))) :
    Calls Tryz.prog 89 #[.agg cs] w (Shows NdV w (shS (.mk 5 name sec len fr to (.mk k1 n1 o1 m1 l1) (.mk k2 n2 o2 m2 l2) body els))) := by
  have HFN : Hid _ := hF
  clear hF
  have q0 : cs[0]? = some (.int .i64 5) := by rw [hcs]; rfl
  have q1 : cs[1]? = some (.string (bs name)) := by rw [hcs]; rfl
  have q4 : cs[4]? = some (.int .i64 fr) := by rw [hcs]; rfl
  have q5 : cs[5]? = some (.int .i64 to) := by rw [hcs]; rfl
  have q16 : cs[16]? = some (.slice a3 body.length c3) := by rw [hcs]; rfl
  have HCS : Hid (cs = smA 5 name sec len fr to k1 n1 o1 m1 a1 l1.length c1 k2 n2 o2 m2 a2 l2.length c2 a3 body.length c3 a4 els.length c4) := hcs
  have hia : (Tryz.prog.info? 110).map (·.size) = some cs.size := by rw [hcs]; exact info_stmt
  have hzs : zS.size = cs.size := by rw [hcs]; rfl
  have hone : cs.all (·.oneCell') = true := by rw [hcs]; simp [smA, Value.oneCell']
  clear hcs 
  obtain ⟨w1, hw1⟩ : ∃ w1, w1 = st0 w cs := ⟨_, rfl⟩
  have R0 : St w cs w1 := by rw [hw1]; exact St.start w cs
  have HW1 : Hid (w1 = ((((w.alloc (.cells cs 110)).alloc nd0).alloc nd0).alloc (.cells zS 110)).setRow (w.heap.size + 3) cs) := hw1
  clear hw1
  have hbx : (((w.alloc (.cells cs 110)).alloc nd0).alloc nd0).heap[w.heap.size]? = some (.cells cs 110 (0, 0)) := by
    rw [heap_alloc_old _ _ (by simp; omega), heap_alloc_old _ _ (by simp)]; exact heap_alloc_new w _
  have hmo : ((((w.alloc (.cells cs 110)).alloc nd0).alloc nd0).alloc (.cells zS 110)).heap[w.heap.size + 3]? = some (.cells zS 110 (0, 0)) := by
    have := heap_alloc_new (((w.alloc (.cells cs 110)).alloc nd0).alloc nd0) (.cells zS 110)
    simpa using this
  have cb := R0.cell
  have sz := R0.lt
  have R1 : St w cs w1.drew := R0.on (drew_bl w1)
  go_enter Tryz.func89, Tryz.ntmps89
  have hbx1 : w1.heap[w.heap.size]? = some (.cells cs 110 (0, 0)) := R0.box
  go_wp2_with (first | (refine wpList_load_row rfl 110 (.tmp 1) rfl w.heap.size rfl 110 cs (0, 0) _ ?_ Tryz.underlying110 rfl hia ?_; (first | with_reducible exact hbx | with_reducible exact hbx1)) | (go_at_call 109; refine (HFN.out _ R0).mono ?_; rintro e w9 hG9; obtain ⟨v9, rfl, a9, k9, rfl, hc9, hr9⟩ := hG9.ok _ rfl; refine Hid.out ?_) | (refine wpList_store_row rfl 110 (.tmp 4) _ rfl (w.heap.size + 3) cs rfl rfl 110 zS hmo hia hzs hone ?_; rw [← HW1.out]; clear hbx hmo))
  refine Lib.hid ?_
  have R9 := R0.on hG9.below
  have sz9 := R9.lt
  have hno9 : w9.heap[w.heap.size + 1 + 1]? = some (.cells #[.bool false, .string ⟨#[]⟩, .slice none 0 0, .int .i64 0] 66 (0, 0)) := R9.node
  clear cb
  go_wp2_with (first | (refine wpList_store_row rfl 66 (.tmp 3) _ rfl (w.heap.size + 1 + 1) #[.bool il2, .string (bs wd2), .slice a9 ks2.length k9, .int .i64 p2] rfl rfl 66 #[.bool false, .string ⟨#[]⟩, .slice none 0 0, .int .i64 0] hno9 size_nd rfl (by simp [Value.oneCell']) ?_; refine Hid.out ?_))
  refine Lib.hid ?_
  have sz5 := R9.lt
  generalize hw6 : w9.setRow (w.heap.size + 1 + 1) #[.bool il2, .string (bs wd2), .slice a9 ks2.length k9, .int .i64 p2] = w6
  have R6 : Sn w cs (.mk il2 wd2 ks2 p2) w6 := Sn.ofRow R9 hc9 (kNd.row_mono (by decide) hr9 fun i hi _ => ⟨by have : w1.heap.size ≤ i := hi; omega, rfl⟩) hw6
  have HR6 : Hid _ := R6
  have hmo6 : w6.heap[w.heap.size + 1 + 1 + 1]? = some (.cells cs 110 (0, 0)) := R6.more
  have cm : ∀ i, w6.cell? ⟨w.heap.size + 1 + 1 + 1, i, none⟩ = cs[i]? := fun i => by simp [World.cell?, hmo6]
  have fz : ∀ i, w6.frozen? ⟨w.heap.size + 1 + 1 + 1, i, none⟩ = false := fun i => by simp [World.frozen?, hmo6]
  clear hw6 R6 hr9 R9 R0 hG9 hno9
  have HM6 : Hid _ := hmo6
  clear hmo6
  have hiaM : ∀ (M : Array Value), M.size = cs.size → (Tryz.prog.info? 110).map (·.size) = some M.size := fun M h => by rw [h]; exact hia
  clear hia hzs hone HW1
  have HIB : Hid (∀ W : World, Calls Tryz.prog 110 #[.agg ((((cs.setIfInBounds 1 (.string ⟨#[]⟩)).setIfInBounds 4 (.int .i64 0)).setIfInBounds 5 (.int .i64 0)).setIfInBounds 16 (.slice none 0 0))] W fun e w' => e = .returned (.bool (bareB [] sec len 0 0 (.mk k1 n1 o1 m1 l1) (.mk k2 n2 o2 m2 l2) [] els)) ∧ Below W.heap.size W w') := fun W => isBare_any _ 5 [] sec len 0 0 k1 n1 o1 m1 l1 k2 n2 o2 m2 l2 [] els a1 c1 a2 c2 none 0 a4 c4 W (by rw [HCS.out]; simp only [smA, List.setIfInBounds_toArray, List.set_cons_zero, List.set_cons_succ]; rfl)
  have hR : ∀ W : World, Hid (((((w6.setCell ⟨w.heap.size + 1 + 1 + 1, 1, none⟩ (.string ⟨#[]⟩)).setCell ⟨w.heap.size + 1 + 1 + 1, 4, none⟩ (.int .i64 0)).setCell ⟨w.heap.size + 1 + 1 + 1, 5, none⟩ (.int .i64 0)).setCell ⟨w.heap.size + 1 + 1 + 1, 16, none⟩ (.slice none 0 0)) = W) → Sm5 w (.mk il2 wd2 ks2 p2) W := fun W hW => by
    have e := hW.out
    subst e
    exact Sm5.of HR6.out (fun i hi => by rw [setCell_other hi, setCell_other hi, setCell_other hi, setCell_other hi]) (bl_set (bl_set (bl_set (bl_set HR6.out.bl _ _ _ (by omega)) _ _ _ (by omega)) _ _ _ (by omega)) _ _ _ (by omega))
  go_wp2_with (first | (refine wpList_load_row rfl 110 (.tmp 4) rfl (w.heap.size + 1 + 1 + 1) rfl 110 ((((cs.setIfInBounds 1 (.string ⟨#[]⟩)).setIfInBounds 4 (.int .i64 0)).setIfInBounds 5 (.int .i64 0)).setIfInBounds 16 (.slice none 0 0)) (0, 0) _ ?_ Tryz.underlying110 rfl ?_ ?_; (exact (set_over (set_over (set_over (set_over HM6.out))))); (exact hiaM _ (by simp)); refine Hid.out ?_))
  generalize hw7 : ((((w6.setCell ⟨w.heap.size + 1 + 1 + 1, 1, none⟩ (.string ⟨#[]⟩)).setCell ⟨w.heap.size + 1 + 1 + 1, 4, none⟩ (.int .i64 0)).setCell ⟨w.heap.size + 1 + 1 + 1, 5, none⟩ (.int .i64 0)).setCell ⟨w.heap.size + 1 + 1 + 1, 16, none⟩ (.slice none 0 0)) = w7
  have HR7 := hR w7 hw7
  clear hw7 hR cm fz HM6 hiaM HR6
  refine Lib.hid ?_
  cases hbr : bareB [] sec len 0 0 (.mk k1 n1 o1 m1 l1) (.mk k2 n2 o2 m2 l2) [] els with
  | false =>
    rw [hbr] at HIB
    have HF : Hid (shS (.mk 5 name sec len fr to (.mk k1 n1 o1 m1 l1) (.mk k2 n2 o2 m2 l2) body els) = none) := by
      show _ = _
      rw [shS, if_neg (by omega), if_neg (by omega), if_neg (by omega), if_neg (by omega), if_pos rfl]
      exact for_sh fun h => by rw [bare_for h] at hbr; cases hbr
    clear hbr
    go_wp2_with (first | (go_at_call 110; refine (HIB.out _).mono ?_; rintro e w8 ⟨rfl, hb8⟩) | (go_at_call 75; refine (must_no _).mono ?_; rintro e w9 ⟨rfl, rfl⟩))
    exact ⟨rfl, .ofBad HF.out (bl_then HR7.bl hb8)⟩
  | true =>
    rw [hbr] at HIB
    have HF : Hid (shS (.mk 5 name sec len fr to (.mk k1 n1 o1 m1 l1) (.mk k2 n2 o2 m2 l2) body els) = some (.mk il2 wd2 ks2 p2)) := by
      show _ = _
      rw [shS, if_neg (by omega), if_neg (by omega), if_neg (by omega), if_neg (by omega), if_pos rfl]
      exact for_sh2 hs (for_bare hbr)
    clear hbr
    go_wp2_with (first | (go_at_call 110; refine (HIB.out _).mono ?_; rintro e w8 ⟨rfl, hb8⟩; have R8 := HR7.on hb8; refine Hid.out ?_))
    refine Lib.hid ?_
    obtain ⟨il, wd, ks, p, na, nc, hnd, hno, hnc, hnr⟩ := R8.node
    rw [hnd] at HF
    have hres8 := R8.res
    have HB8 : Hid (Below w.heap.size w w8) := R8.bl
    have HNR : Hid _ := hnr
    have nlt : w.heap.size + 1 + 1 < w8.heap.size := lt_of_some hno
    obtain ⟨e0, e1, e2, e3, f0, f1, f2, f3⟩ := nd_free (b := w.heap.size + 1 + 1) hno
    obtain ⟨d0, d1, d2, d3, g0, g1, g2, g3⟩ := nd_free hres8
    clear hb8 HR7 R8 hno hnd hnr HIB
    go_wp2_with (first | (go_at_call 75; refine (must_yes _).mono ?_; rintro e w9 ⟨rfl, hq⟩; have hq' := hq.symm; subst hq'))
    exact bodyPost_ret_by (results_row Tryz.results89 rfl (load_nd (set4c hres8) rfl)) rfl (.ofOk HF.out (bl_set4 HB8.out _ _ _ _ _ (by omega)) ⟨na, nc, rfl, hnc, kNd.row_mono (by decide) HNR.out fun i hi _ => ⟨by omega, set4o (by omega)⟩⟩)
end Go.Proofs.YtbpdhegfdmppgaaGreatDoor.Sh

/- CONTRACT of stmtNode at if that cannot be shown. -/
namespace Go.Proofs.YtbpdhegfdmppgaaGreatDoor.Sh
open Go.ChangeShapes Go.WideShapes Go.ChangeAt Go.RowKit

set_option maxRecDepth 100000 in
set_option maxHeartbeats 2000000 in
theorem stmt_if_e {B : Nat} {S : Nat → Prop} (cs : Array Value) (name : List UInt8) (sec : Bool) (len fr to k1 : Int) (n1 : Nat) (o1 : Int) (m1 : List UInt8) (l1 : List Ex) (k2 : Int) (n2 : Nat) (o2 : Int) (m2 : List UInt8) (l2 : List Ex) (body els : List Sm) (a1 : Option Addr) (c1 : Nat) (a2 : Option Addr) (c2 : Nat) (a3 : Option Addr) (c3 : Nat) (a4 : Option Addr) (c4 : Nat) (w : World)
    (hcs : cs = smA 6 name sec len fr to k1 n1 o1 m1 a1 l1.length c1 k2 n2 o2 m2 a2 l2.length c2 a3 body.length c3 a4 els.length c4) (hg : Glob B w) (hr2 : exR w S a2 l2) (hc2 : l2.length ≤ c2) (hm2 : exW (.mk k2 n2 o2 m2 l2) ≤ 1000000) (hok2 : exOk (.mk k2 n2 o2 m2 l2)) (hs2 : shE (.mk k2 n2 o2 m2 l2) = none) :
    Calls Tryz.prog 89 #[.agg cs] w (Shows NdV w (shS (.mk 6 name sec len fr to (.mk k1 n1 o1 m1 l1) (.mk k2 n2 o2 m2 l2) body els))) := by
  have HF : Hid (shS (.mk 6 name sec len fr to (.mk k1 n1 o1 m1 l1) (.mk k2 n2 o2 m2 l2) body els) = none) := by
    show _ = _
    rw [shS, if_neg (by omega), if_neg (by omega), if_neg (by omega), if_neg (by omega), if_neg (by omega), if_pos rfl, hs2]; rfl
  have HN : Hid (∀ w1, St w cs w1 → Calls Tryz.prog 90 #[exV k2 n2 o2 m2 a2 l2.length c2] w1 (Shows NdV w1 (none))) := fun w1 h1 => by
    rw [← hs2]
    exact expr_any _ w1 _ hm2 hok2 (hg.below h1.bl) ⟨a2, c2, rfl, hc2, exR_mono (T := S) (fun i hi hlt => ⟨hi, h1.bl.block i hlt⟩) hr2⟩
  have q0 : cs[0]? = some (.int .i64 6) := by rw [hcs]; rfl
  have q11 : cs[11]? = some (.int .i64 k2) := by rw [hcs]; rfl
  have q12 : cs[12]? = some (.int .u32 (n2 : Nat)) := by rw [hcs]; rfl
  have q13 : cs[13]? = some (.int .i64 o2) := by rw [hcs]; rfl
  have q14 : cs[14]? = some (.string (bs m2)) := by rw [hcs]; rfl
  have q15 : cs[15]? = some (.slice a2 l2.length c2) := by rw [hcs]; rfl
  have q16 : cs[16]? = some (.slice a3 body.length c3) := by rw [hcs]; rfl
  have q17 : cs[17]? = some (.slice a4 els.length c4) := by rw [hcs]; rfl
  have HCS : Hid (cs = smA 6 name sec len fr to k1 n1 o1 m1 a1 l1.length c1 k2 n2 o2 m2 a2 l2.length c2 a3 body.length c3 a4 els.length c4) := hcs
  have hia : (Tryz.prog.info? 110).map (·.size) = some cs.size := by rw [hcs]; exact info_stmt
  have hzs : zS.size = cs.size := by rw [hcs]; rfl
  have hone : cs.all (·.oneCell') = true := by rw [hcs]; simp [smA, Value.oneCell']
  clear hcs hr2 hm2 hok2 hg hc2 hs2
  obtain ⟨w1, hw1⟩ : ∃ w1, w1 = st0 w cs := ⟨_, rfl⟩
  have R0 : St w cs w1 := by rw [hw1]; exact St.start w cs
  have HW1 : Hid (w1 = ((((w.alloc (.cells cs 110)).alloc nd0).alloc nd0).alloc (.cells zS 110)).setRow (w.heap.size + 3) cs) := hw1
  clear hw1
  have hbx : (((w.alloc (.cells cs 110)).alloc nd0).alloc nd0).heap[w.heap.size]? = some (.cells cs 110 (0, 0)) := by
    rw [heap_alloc_old _ _ (by simp; omega), heap_alloc_old _ _ (by simp)]; exact heap_alloc_new w _
  have hmo : ((((w.alloc (.cells cs 110)).alloc nd0).alloc nd0).alloc (.cells zS 110)).heap[w.heap.size + 3]? = some (.cells zS 110 (0, 0)) := by
    have := heap_alloc_new (((w.alloc (.cells cs 110)).alloc nd0).alloc nd0) (.cells zS 110)
    simpa using this
  have cb := R0.cell
  have sz := R0.lt
  have R1 : St w cs w1.drew := R0.on (drew_bl w1)
  go_enter Tryz.func89, Tryz.ntmps89
  go_wp2_with (first | (refine wpList_load_row rfl 110 (.tmp 1) rfl w.heap.size rfl 110 cs (0, 0) _ hbx Tryz.underlying110 rfl hia ?_) | (refine wpList_store_row rfl 110 (.tmp 4) _ rfl (w.heap.size + 3) cs rfl rfl 110 zS hmo hia hzs hone ?_; rw [← HW1.out]; clear hbx hmo))
  obtain ⟨t11, t12, t13, t14, t15, t16, t17⟩ : w1.cell? ⟨w.heap.size, 11, none⟩ = some (.int .i64 k2) ∧ w1.cell? ⟨w.heap.size, 12, none⟩ = some (.int .u32 (n2 : Nat)) ∧ w1.cell? ⟨w.heap.size, 13, none⟩ = some (.int .i64 o2) ∧ w1.cell? ⟨w.heap.size, 14, none⟩ = some (.string (bs m2)) ∧ w1.cell? ⟨w.heap.size, 15, none⟩ = some (.slice a2 l2.length c2) ∧ w1.cell? ⟨w.heap.size, 16, none⟩ = some (.slice a3 body.length c3) ∧ w1.cell? ⟨w.heap.size, 17, none⟩ = some (.slice a4 els.length c4) := ⟨(R0.cell 11).trans q11, (R0.cell 12).trans q12, (R0.cell 13).trans q13, (R0.cell 14).trans q14, (R0.cell 15).trans q15, (R0.cell 16).trans q16, (R0.cell 17).trans q17⟩
  clear cb
  go_region_law (first | (refine step_call rfl 90 _ _ rfl #[exV k2 n2 o2 m2 a2 l2.length c2] (by simp [go_sem, Act.eval]) ?_; refine (HN.out _ R1).mono ?_; rintro e w3 hG3; obtain rfl := hG3.bad rfl; refine (fun (_ : wpAny Tryz.prog Region.Mode.any #[] (fun _ _ _ => True) 0 #[] ⟨#[], []⟩ w1) => ⟨rfl, .ofBad HF.out (bl_then R1.bl hG3.below)⟩) ?_))
  all_goals trivial
set_option maxRecDepth 100000 in
set_option maxHeartbeats 2000000 in
theorem stmt_if_body {B : Nat} {S : Nat → Prop} (cs : Array Value) (name : List UInt8) (sec : Bool) (len fr to k1 : Int) (n1 : Nat) (o1 : Int) (m1 : List UInt8) (l1 : List Ex) (k2 : Int) (n2 : Nat) (o2 : Int) (m2 : List UInt8) (l2 : List Ex) (body els : List Sm) (a1 : Option Addr) (c1 : Nat) (a2 : Option Addr) (c2 : Nat) (a3 : Option Addr) (c3 : Nat) (a4 : Option Addr) (c4 : Nat) (w : World)
    (hcs : cs = smA 6 name sec len fr to k1 n1 o1 m1 a1 l1.length c1 k2 n2 o2 m2 a2 l2.length c2 a3 body.length c3 a4 els.length c4) (hg : Glob B w) (hr2 : exR w S a2 l2) (hc2 : l2.length ≤ c2) (hm2 : exW (.mk k2 n2 o2 m2 l2) ≤ 1000000) (hok2 : exOk (.mk k2 n2 o2 m2 l2)) (il2 : Bool) (wd2 : List UInt8) (ks2 : List Nd) (p2 : Int) (hs2 : shE (.mk k2 n2 o2 m2 l2) = some (.mk il2 wd2 ks2 p2)) (hs3 : shSs body = none) (hB3 : ∀ w1, St w cs w1 → Calls Tryz.prog 88 #[.slice a3 body.length c3, .func (.func 89) #[] #[]] w1 (Shows kNd.rd w1 (none))) :
    Calls Tryz.prog 89 #[.agg cs] w (Shows NdV w (shS (.mk 6 name sec len fr to (.mk k1 n1 o1 m1 l1) (.mk k2 n2 o2 m2 l2) body els))) := by
  have HF : Hid (shS (.mk 6 name sec len fr to (.mk k1 n1 o1 m1 l1) (.mk k2 n2 o2 m2 l2) body els) = none) := by
    show _ = _
    rw [shS, if_neg (by omega), if_neg (by omega), if_neg (by omega), if_neg (by omega), if_neg (by omega), if_pos rfl, hs2, hs3]; rfl
  have HN : Hid (∀ w1, St w cs w1 → Calls Tryz.prog 90 #[exV k2 n2 o2 m2 a2 l2.length c2] w1 (Shows NdV w1 (some (.mk il2 wd2 ks2 p2)))) := fun w1 h1 => by
    rw [← hs2]
    exact expr_any _ w1 _ hm2 hok2 (hg.below h1.bl) ⟨a2, c2, rfl, hc2, exR_mono (T := S) (fun i hi hlt => ⟨hi, h1.bl.block i hlt⟩) hr2⟩
  have HB3 : Hid _ := hB3
  clear hB3
  have q0 : cs[0]? = some (.int .i64 6) := by rw [hcs]; rfl
  have q11 : cs[11]? = some (.int .i64 k2) := by rw [hcs]; rfl
  have q12 : cs[12]? = some (.int .u32 (n2 : Nat)) := by rw [hcs]; rfl
  have q13 : cs[13]? = some (.int .i64 o2) := by rw [hcs]; rfl
  have q14 : cs[14]? = some (.string (bs m2)) := by rw [hcs]; rfl
  have q15 : cs[15]? = some (.slice a2 l2.length c2) := by rw [hcs]; rfl
  have q16 : cs[16]? = some (.slice a3 body.length c3) := by rw [hcs]; rfl
  have q17 : cs[17]? = some (.slice a4 els.length c4) := by rw [hcs]; rfl
  have HCS : Hid (cs = smA 6 name sec len fr to k1 n1 o1 m1 a1 l1.length c1 k2 n2 o2 m2 a2 l2.length c2 a3 body.length c3 a4 els.length c4) := hcs
  have hia : (Tryz.prog.info? 110).map (·.size) = some cs.size := by rw [hcs]; exact info_stmt
  have hzs : zS.size = cs.size := by rw [hcs]; rfl
  have hone : cs.all (·.oneCell') = true := by rw [hcs]; simp [smA, Value.oneCell']
  clear hcs hr2 hm2 hok2 hg hc2 hs2 hs3
  obtain ⟨w1, hw1⟩ : ∃ w1, w1 = st0 w cs := ⟨_, rfl⟩
  have R0 : St w cs w1 := by rw [hw1]; exact St.start w cs
  have HW1 : Hid (w1 = ((((w.alloc (.cells cs 110)).alloc nd0).alloc nd0).alloc (.cells zS 110)).setRow (w.heap.size + 3) cs) := hw1
  clear hw1
  have hbx : (((w.alloc (.cells cs 110)).alloc nd0).alloc nd0).heap[w.heap.size]? = some (.cells cs 110 (0, 0)) := by
    rw [heap_alloc_old _ _ (by simp; omega), heap_alloc_old _ _ (by simp)]; exact heap_alloc_new w _
  have hmo : ((((w.alloc (.cells cs 110)).alloc nd0).alloc nd0).alloc (.cells zS 110)).heap[w.heap.size + 3]? = some (.cells zS 110 (0, 0)) := by
    have := heap_alloc_new (((w.alloc (.cells cs 110)).alloc nd0).alloc nd0) (.cells zS 110)
    simpa using this
  have cb := R0.cell
  have sz := R0.lt
  have R1 : St w cs w1.drew := R0.on (drew_bl w1)
  go_enter Tryz.func89, Tryz.ntmps89
  go_wp2_with (first | (refine wpList_load_row rfl 110 (.tmp 1) rfl w.heap.size rfl 110 cs (0, 0) _ hbx Tryz.underlying110 rfl hia ?_) | (refine wpList_store_row rfl 110 (.tmp 4) _ rfl (w.heap.size + 3) cs rfl rfl 110 zS hmo hia hzs hone ?_; rw [← HW1.out]; clear hbx hmo))
  obtain ⟨t11, t12, t13, t14, t15, t16, t17⟩ : w1.cell? ⟨w.heap.size, 11, none⟩ = some (.int .i64 k2) ∧ w1.cell? ⟨w.heap.size, 12, none⟩ = some (.int .u32 (n2 : Nat)) ∧ w1.cell? ⟨w.heap.size, 13, none⟩ = some (.int .i64 o2) ∧ w1.cell? ⟨w.heap.size, 14, none⟩ = some (.string (bs m2)) ∧ w1.cell? ⟨w.heap.size, 15, none⟩ = some (.slice a2 l2.length c2) ∧ w1.cell? ⟨w.heap.size, 16, none⟩ = some (.slice a3 body.length c3) ∧ w1.cell? ⟨w.heap.size, 17, none⟩ = some (.slice a4 els.length c4) := ⟨(R0.cell 11).trans q11, (R0.cell 12).trans q12, (R0.cell 13).trans q13, (R0.cell 14).trans q14, (R0.cell 15).trans q15, (R0.cell 16).trans q16, (R0.cell 17).trans q17⟩
  clear cb
  go_region_law (first | (refine step_call rfl 90 _ _ rfl #[exV k2 n2 o2 m2 a2 l2.length c2] (by simp [go_sem, Act.eval]) ?_; refine (HN.out _ R1).mono ?_; rintro e w2 hG2; obtain ⟨v2, rfl, a21, k21, rfl, hc21, hr21⟩ := hG2.ok _ rfl; have R2 := R1.on hG2.below; obtain ⟨u11, u12, u13, u14, u15, u16, u17⟩ : w2.cell? ⟨w.heap.size, 11, none⟩ = some (.int .i64 k2) ∧ w2.cell? ⟨w.heap.size, 12, none⟩ = some (.int .u32 (n2 : Nat)) ∧ w2.cell? ⟨w.heap.size, 13, none⟩ = some (.int .i64 o2) ∧ w2.cell? ⟨w.heap.size, 14, none⟩ = some (.string (bs m2)) ∧ w2.cell? ⟨w.heap.size, 15, none⟩ = some (.slice a2 l2.length c2) ∧ w2.cell? ⟨w.heap.size, 16, none⟩ = some (.slice a3 body.length c3) ∧ w2.cell? ⟨w.heap.size, 17, none⟩ = some (.slice a4 els.length c4) := ⟨(R2.cell 11).trans q11, (R2.cell 12).trans q12, (R2.cell 13).trans q13, (R2.cell 14).trans q14, (R2.cell 15).trans q15, (R2.cell 16).trans q16, (R2.cell 17).trans q17⟩) | (refine step_call rfl 88 _ _ rfl #[.slice a3 body.length c3, .func (.func 89) #[] #[]] (by simp [go_sem, Act.eval]) ?_; refine (HB3.out _ R2).mono ?_; rintro e w3 hG3; obtain rfl := hG3.bad rfl; refine (fun (_ : wpAny Tryz.prog Region.Mode.any #[] (fun _ _ _ => True) 0 #[] ⟨#[], []⟩ w1) => ⟨rfl, .ofBad HF.out (bl_then R2.bl hG3.below)⟩) ?_))
  all_goals trivial
set_option maxRecDepth 100000 in
set_option maxHeartbeats 2000000 in
theorem stmt_if_els {B : Nat} {S : Nat → Prop} (cs : Array Value) (name : List UInt8) (sec : Bool) (len fr to k1 : Int) (n1 : Nat) (o1 : Int) (m1 : List UInt8) (l1 : List Ex) (k2 : Int) (n2 : Nat) (o2 : Int) (m2 : List UInt8) (l2 : List Ex) (body els : List Sm) (a1 : Option Addr) (c1 : Nat) (a2 : Option Addr) (c2 : Nat) (a3 : Option Addr) (c3 : Nat) (a4 : Option Addr) (c4 : Nat) (w : World)
    (hcs : cs = smA 6 name sec len fr to k1 n1 o1 m1 a1 l1.length c1 k2 n2 o2 m2 a2 l2.length c2 a3 body.length c3 a4 els.length c4) (hg : Glob B w) (hr2 : exR w S a2 l2) (hc2 : l2.length ≤ c2) (hm2 : exW (.mk k2 n2 o2 m2 l2) ≤ 1000000) (hok2 : exOk (.mk k2 n2 o2 m2 l2)) (il2 : Bool) (wd2 : List UInt8) (ks2 : List Nd) (p2 : Int) (hs2 : shE (.mk k2 n2 o2 m2 l2) = some (.mk il2 wd2 ks2 p2)) (z3 : List Nd) (_hz3 : z3.length ≤ 1000000) (hs3 : shSs body = some z3) (hs4 : shSs els = none) (hB3 : ∀ w1, St w cs w1 → Calls Tryz.prog 88 #[.slice a3 body.length c3, .func (.func 89) #[] #[]] w1 (Shows kNd.rd w1 (some z3))) (hB4 : ∀ w1, St w cs w1 → Calls Tryz.prog 88 #[.slice a4 els.length c4, .func (.func 89) #[] #[]] w1 (Shows kNd.rd w1 (none))) :
    Calls Tryz.prog 89 #[.agg cs] w (Shows NdV w (shS (.mk 6 name sec len fr to (.mk k1 n1 o1 m1 l1) (.mk k2 n2 o2 m2 l2) body els))) := by
  have HF : Hid (shS (.mk 6 name sec len fr to (.mk k1 n1 o1 m1 l1) (.mk k2 n2 o2 m2 l2) body els) = none) := by
    show _ = _
    rw [shS, if_neg (by omega), if_neg (by omega), if_neg (by omega), if_neg (by omega), if_neg (by omega), if_pos rfl, hs2, hs3, hs4]; rfl
  have HN : Hid (∀ w1, St w cs w1 → Calls Tryz.prog 90 #[exV k2 n2 o2 m2 a2 l2.length c2] w1 (Shows NdV w1 (some (.mk il2 wd2 ks2 p2)))) := fun w1 h1 => by
    rw [← hs2]
    exact expr_any _ w1 _ hm2 hok2 (hg.below h1.bl) ⟨a2, c2, rfl, hc2, exR_mono (T := S) (fun i hi hlt => ⟨hi, h1.bl.block i hlt⟩) hr2⟩
  have HB3 : Hid _ := hB3
  have HB4 : Hid _ := hB4
  clear hB3 hB4
  have q0 : cs[0]? = some (.int .i64 6) := by rw [hcs]; rfl
  have q11 : cs[11]? = some (.int .i64 k2) := by rw [hcs]; rfl
  have q12 : cs[12]? = some (.int .u32 (n2 : Nat)) := by rw [hcs]; rfl
  have q13 : cs[13]? = some (.int .i64 o2) := by rw [hcs]; rfl
  have q14 : cs[14]? = some (.string (bs m2)) := by rw [hcs]; rfl
  have q15 : cs[15]? = some (.slice a2 l2.length c2) := by rw [hcs]; rfl
  have q16 : cs[16]? = some (.slice a3 body.length c3) := by rw [hcs]; rfl
  have q17 : cs[17]? = some (.slice a4 els.length c4) := by rw [hcs]; rfl
  have HCS : Hid (cs = smA 6 name sec len fr to k1 n1 o1 m1 a1 l1.length c1 k2 n2 o2 m2 a2 l2.length c2 a3 body.length c3 a4 els.length c4) := hcs
  have hia : (Tryz.prog.info? 110).map (·.size) = some cs.size := by rw [hcs]; exact info_stmt
  have hzs : zS.size = cs.size := by rw [hcs]; rfl
  have hone : cs.all (·.oneCell') = true := by rw [hcs]; simp [smA, Value.oneCell']
  clear hcs hr2 hm2 hok2 hg hc2 hs2 hs3 hs4
  obtain ⟨w1, hw1⟩ : ∃ w1, w1 = st0 w cs := ⟨_, rfl⟩
  have R0 : St w cs w1 := by rw [hw1]; exact St.start w cs
  have HW1 : Hid (w1 = ((((w.alloc (.cells cs 110)).alloc nd0).alloc nd0).alloc (.cells zS 110)).setRow (w.heap.size + 3) cs) := hw1
  clear hw1
  have hbx : (((w.alloc (.cells cs 110)).alloc nd0).alloc nd0).heap[w.heap.size]? = some (.cells cs 110 (0, 0)) := by
    rw [heap_alloc_old _ _ (by simp; omega), heap_alloc_old _ _ (by simp)]; exact heap_alloc_new w _
  have hmo : ((((w.alloc (.cells cs 110)).alloc nd0).alloc nd0).alloc (.cells zS 110)).heap[w.heap.size + 3]? = some (.cells zS 110 (0, 0)) := by
    have := heap_alloc_new (((w.alloc (.cells cs 110)).alloc nd0).alloc nd0) (.cells zS 110)
    simpa using this
  have cb := R0.cell
  have sz := R0.lt
  have R1 : St w cs w1.drew := R0.on (drew_bl w1)
  go_enter Tryz.func89, Tryz.ntmps89
  go_wp2_with (first | (refine wpList_load_row rfl 110 (.tmp 1) rfl w.heap.size rfl 110 cs (0, 0) _ hbx Tryz.underlying110 rfl hia ?_) | (refine wpList_store_row rfl 110 (.tmp 4) _ rfl (w.heap.size + 3) cs rfl rfl 110 zS hmo hia hzs hone ?_; rw [← HW1.out]; clear hbx hmo))
  obtain ⟨t11, t12, t13, t14, t15, t16, t17⟩ : w1.cell? ⟨w.heap.size, 11, none⟩ = some (.int .i64 k2) ∧ w1.cell? ⟨w.heap.size, 12, none⟩ = some (.int .u32 (n2 : Nat)) ∧ w1.cell? ⟨w.heap.size, 13, none⟩ = some (.int .i64 o2) ∧ w1.cell? ⟨w.heap.size, 14, none⟩ = some (.string (bs m2)) ∧ w1.cell? ⟨w.heap.size, 15, none⟩ = some (.slice a2 l2.length c2) ∧ w1.cell? ⟨w.heap.size, 16, none⟩ = some (.slice a3 body.length c3) ∧ w1.cell? ⟨w.heap.size, 17, none⟩ = some (.slice a4 els.length c4) := ⟨(R0.cell 11).trans q11, (R0.cell 12).trans q12, (R0.cell 13).trans q13, (R0.cell 14).trans q14, (R0.cell 15).trans q15, (R0.cell 16).trans q16, (R0.cell 17).trans q17⟩
  clear cb
  go_region_law (first | (refine step_call rfl 90 _ _ rfl #[exV k2 n2 o2 m2 a2 l2.length c2] (by simp [go_sem, Act.eval]) ?_; refine (HN.out _ R1).mono ?_; rintro e w2 hG2; obtain ⟨v2, rfl, a21, k21, rfl, hc21, hr21⟩ := hG2.ok _ rfl; have R2 := R1.on hG2.below; obtain ⟨u11, u12, u13, u14, u15, u16, u17⟩ : w2.cell? ⟨w.heap.size, 11, none⟩ = some (.int .i64 k2) ∧ w2.cell? ⟨w.heap.size, 12, none⟩ = some (.int .u32 (n2 : Nat)) ∧ w2.cell? ⟨w.heap.size, 13, none⟩ = some (.int .i64 o2) ∧ w2.cell? ⟨w.heap.size, 14, none⟩ = some (.string (bs m2)) ∧ w2.cell? ⟨w.heap.size, 15, none⟩ = some (.slice a2 l2.length c2) ∧ w2.cell? ⟨w.heap.size, 16, none⟩ = some (.slice a3 body.length c3) ∧ w2.cell? ⟨w.heap.size, 17, none⟩ = some (.slice a4 els.length c4) := ⟨(R2.cell 11).trans q11, (R2.cell 12).trans q12, (R2.cell 13).trans q13, (R2.cell 14).trans q14, (R2.cell 15).trans q15, (R2.cell 16).trans q16, (R2.cell 17).trans q17⟩) | (refine step_call rfl 88 _ _ rfl #[.slice a3 body.length c3, .func (.func 89) #[] #[]] (by simp [go_sem, Act.eval]) ?_; refine (HB3.out _ R2).mono ?_; rintro e w3 hG3; obtain ⟨v3, rfl, a31, k31, rfl, hr31, hc31⟩ := hG3.ok _ rfl; have R3 := R2.on hG3.below; obtain ⟨y11, y12, y13, y14, y15, y16, y17⟩ : w3.cell? ⟨w.heap.size, 11, none⟩ = some (.int .i64 k2) ∧ w3.cell? ⟨w.heap.size, 12, none⟩ = some (.int .u32 (n2 : Nat)) ∧ w3.cell? ⟨w.heap.size, 13, none⟩ = some (.int .i64 o2) ∧ w3.cell? ⟨w.heap.size, 14, none⟩ = some (.string (bs m2)) ∧ w3.cell? ⟨w.heap.size, 15, none⟩ = some (.slice a2 l2.length c2) ∧ w3.cell? ⟨w.heap.size, 16, none⟩ = some (.slice a3 body.length c3) ∧ w3.cell? ⟨w.heap.size, 17, none⟩ = some (.slice a4 els.length c4) := ⟨(R3.cell 11).trans q11, (R3.cell 12).trans q12, (R3.cell 13).trans q13, (R3.cell 14).trans q14, (R3.cell 15).trans q15, (R3.cell 16).trans q16, (R3.cell 17).trans q17⟩) | (refine step_call rfl 84 _ _ rfl #[.slice a31 z3.length k31] (by simp [go_sem, Act.eval]) ?_; refine (list_any _ _ _ _).mono ?_; rintro e w4 ⟨rfl, hb4⟩; have R4 := R3.on hb4; obtain ⟨x11, x12, x13, x14, x15, x16, x17⟩ : w4.cell? ⟨w.heap.size, 11, none⟩ = some (.int .i64 k2) ∧ w4.cell? ⟨w.heap.size, 12, none⟩ = some (.int .u32 (n2 : Nat)) ∧ w4.cell? ⟨w.heap.size, 13, none⟩ = some (.int .i64 o2) ∧ w4.cell? ⟨w.heap.size, 14, none⟩ = some (.string (bs m2)) ∧ w4.cell? ⟨w.heap.size, 15, none⟩ = some (.slice a2 l2.length c2) ∧ w4.cell? ⟨w.heap.size, 16, none⟩ = some (.slice a3 body.length c3) ∧ w4.cell? ⟨w.heap.size, 17, none⟩ = some (.slice a4 els.length c4) := ⟨(R4.cell 11).trans q11, (R4.cell 12).trans q12, (R4.cell 13).trans q13, (R4.cell 14).trans q14, (R4.cell 15).trans q15, (R4.cell 16).trans q16, (R4.cell 17).trans q17⟩) | (refine step_call rfl 88 _ _ rfl #[.slice a4 els.length c4, .func (.func 89) #[] #[]] (by simp [go_sem, Act.eval]) ?_; refine (HB4.out _ R4).mono ?_; rintro e w5 hG5; obtain rfl := hG5.bad rfl; refine (fun (_ : wpAny Tryz.prog Region.Mode.any #[] (fun _ _ _ => True) 0 #[] ⟨#[], []⟩ w1) => ⟨rfl, .ofBad HF.out (bl_then R4.bl hG5.below)⟩) ?_))
  all_goals trivial
end Go.Proofs.YtbpdhegfdmppgaaGreatDoor.Sh

/- CONTRACT of stmtNode, for all statements. -/
namespace Go.Proofs.YtbpdhegfdmppgaaGreatDoor.Sh
open Go.ChangeShapes Go.WideShapes Go.ChangeAt Go.RowKit

mutual
def smOk : Sm → Prop
  | .mk _ _ _ _ _ _ ix e body els => exOk ix ∧ exOk e ∧ smOks body ∧ smOks els
def smOks : List Sm → Prop
  | [] => True
  | x :: l => smOk x ∧ smOks l
end
theorem smOk_mem : ∀ (l : List Sm) (x : Sm), x ∈ l → smOks l → smOk x
  | [], _, h, _ => by cases h
  | a :: l, x, h, hl => by
    rw [smOks] at hl
    rcases List.mem_cons.1 h with rfl | h
    · exact hl.1
    · exact smOk_mem l x h hl.2
/-- The contract, for statements of at most that much. -/
def StmtN (m : Nat) : Prop := ∀ (x : Sm) (B : Nat) (S : Nat → Prop) (w : World) (v : Value), smW x ≤ m → smW x ≤ 100000 → smOk x → Glob B w → SmV w S v x → Calls Tryz.prog 89 #[v] w (Shows NdV w (shS x))
theorem StmtN.each {m : Nat} (h : StmtN m) {B : Nat} {S : Nat → Prop} {l : List Sm} {a : Option Addr} {c : Nat} {w : World} (hr : smR w S a l) (hg : Glob B w) (hm : smWs l ≤ m) (hb : smWs l ≤ 100000) (hok : smOks l) :
    Calls Tryz.prog 88 #[.slice a l.length c, .func (.func 89) #[] #[]] w (Shows kNd.rd w (shSs l)) := by
  rw [shSs_each]
  refine eachS_any w a l c ((smR_row _ _ _ _).1 hr) (by have := smWs_len l; omega) hg fun x hx S' w1 v hg1 hv => ?_
  have := smW_mem l x hx
  exact h x B S' w1 v (by omega) (by omega) (smOk_mem l x hx hok) hg1 hv
set_option maxRecDepth 100000 in
set_option maxHeartbeats 2000000 in
theorem stmt_none (cs : Array Value) (kind : Int) (w : World) (res : Option Nd) (hres : res = none) (q0 : cs[0]? = some (.int .i64 kind)) (hsz : cs.size = 18) (hone : cs.all (·.oneCell') = true) (h1 : ¬ kind = 1) (h2 : ¬ kind = 2) (h3 : ¬ kind = 3) (h4 : ¬ kind = 4) (h5 : ¬ kind = 5) (h6 : ¬ kind = 6) : Calls Tryz.prog 89 #[.agg cs] w (Shows NdV w res) := by
  have HF : Hid (res = none) := hres
  have hia : (Tryz.prog.info? 110).map (·.size) = some cs.size := by rw [hsz]; exact info_stmt
  have hzs : zS.size = cs.size := by rw [hsz]; rfl
  have e1 : (kind == 1) = false := by simpa using h1
  have e2 : (kind == 2) = false := by simpa using h2
  have e3 : (kind == 3) = false := by simpa using h3
  have e4 : (kind == 4) = false := by simpa using h4
  have e5 : (kind == 5) = false := by simpa using h5
  have e6 : (kind == 6) = false := by simpa using h6
  clear h1 h2 h3 h4 h5 h6 hsz hres
  obtain ⟨w1, hw1⟩ : ∃ w1, w1 = st0 w cs := ⟨_, rfl⟩
  have R0 : St w cs w1 := by rw [hw1]; exact St.start w cs
  have HW1 : Hid (w1 = ((((w.alloc (.cells cs 110)).alloc nd0).alloc nd0).alloc (.cells zS 110)).setRow (w.heap.size + 3) cs) := hw1
  clear hw1
  have hbx : (((w.alloc (.cells cs 110)).alloc nd0).alloc nd0).heap[w.heap.size]? = some (.cells cs 110 (0, 0)) := by
    rw [heap_alloc_old _ _ (by simp; omega), heap_alloc_old _ _ (by simp)]; exact heap_alloc_new w _
  have hmo : ((((w.alloc (.cells cs 110)).alloc nd0).alloc nd0).alloc (.cells zS 110)).heap[w.heap.size + 3]? = some (.cells zS 110 (0, 0)) := by
    have := heap_alloc_new (((w.alloc (.cells cs 110)).alloc nd0).alloc nd0) (.cells zS 110)
    simpa using this
  have cb := R0.cell
  have sz := R0.lt
  go_enter Tryz.func89, Tryz.ntmps89
  go_wp2_with (first | (refine wpList_load_row rfl 110 (.tmp 1) rfl w.heap.size rfl 110 cs (0, 0) _ hbx Tryz.underlying110 rfl hia ?_) | (refine wpList_store_row rfl 110 (.tmp 4) _ rfl (w.heap.size + 3) cs rfl rfl 110 zS hmo hia hzs hone ?_; rw [← HW1.out]; clear hbx hmo) | (go_at_call 75; refine (must_no _).mono ?_; rintro e w2 ⟨rfl, rfl⟩))
  exact ⟨rfl, .ofBad HF.out R0.bl⟩
theorem stmt_all : ∀ m, StmtN m := by
  intro m
  induction m with
  | zero =>
    intro x B S w v hm
    obtain ⟨kind, name, sec, len, fr, to, ix, e, body, els⟩ := x
    rw [smW] at hm
    omega
  | succ m ih =>
    intro x B S w v hm hm' hok hg hv
    obtain ⟨kind, name, sec, len, fr, to, ⟨k1, n1, o1, m1, l1⟩, ⟨k2, n2, o2, m2, l2⟩, body, els⟩ := x
    obtain ⟨csl, rfl, hC⟩ := hv
    rw [smC_mk] at hC
    obtain ⟨a1, c1, a2, c2, a3, c3, a4, c4, hcsl, hc1, hc2, hc3, hc4, hr1, hr2, hr3, hr4⟩ := hC
    rw [smW] at hm hm'
    rw [smOk] at hok
    obtain ⟨hok1, hok2, hok3, hok4⟩ := hok
    obtain ⟨cs, hcs⟩ : ∃ cs, cs = smA kind name sec len fr to k1 n1 o1 m1 a1 l1.length c1 k2 n2 o2 m2 a2 l2.length c2 a3 body.length c3 a4 els.length c4 := ⟨_, rfl⟩
    have ecs : csl.toArray = cs := by rw [hcsl, hcs]
    rw [ecs]
    clear ecs hcsl
    have hE : ∀ (l : List Sm) (a : Option Addr) (c : Nat), smR w S a l → smWs l ≤ m → smWs l ≤ 100000 → smOks l → ∀ w1, Below w.heap.size w w1 → Calls Tryz.prog 88 #[.slice a l.length c, .func (.func 89) #[] #[]] w1 (Shows kNd.rd w1 (shSs l)) := fun l a c hr h1 h2 h3 w1 hb =>
      ih.each (smR_mono (T := S) (fun i hi hlt => ⟨hi, hb.block i hlt⟩) hr) (hg.below hb) h1 h2 h3
    by_cases h1 : kind = 1
    · subst h1
      rcases hn : isName name with _ | _
      · exact stmt_let_name cs name sec len fr to k1 n1 o1 m1 l1 k2 n2 o2 m2 l2 body els a1 c1 a2 c2 a3 c3 a4 c4 w hcs hn
      · cases hs : shE (.mk k2 n2 o2 m2 l2) with
        | none => exact stmt_let_e cs name sec len fr to k1 n1 o1 m1 l1 k2 n2 o2 m2 l2 body els a1 c1 a2 c2 a3 c3 a4 c4 w hcs hg hr2 hc2 (by omega) hok2 hn hs
        | some z => obtain ⟨il, wd, ks, p⟩ := z; exact stmt_let_yes cs name sec len fr to k1 n1 o1 m1 l1 k2 n2 o2 m2 l2 body els a1 c1 a2 c2 a3 c3 a4 c4 w hcs hg hr2 hc2 (by omega) hok2 hn il wd ks p hs
    by_cases h3 : kind = 3
    · subst h3
      rcases hn : isName name with _ | _
      · exact stmt_set_name cs name sec len fr to k1 n1 o1 m1 l1 k2 n2 o2 m2 l2 body els a1 c1 a2 c2 a3 c3 a4 c4 w hcs hn
      · cases hs : shE (.mk k2 n2 o2 m2 l2) with
        | none => exact stmt_set_e cs name sec len fr to k1 n1 o1 m1 l1 k2 n2 o2 m2 l2 body els a1 c1 a2 c2 a3 c3 a4 c4 w hcs hg hr2 hc2 (by omega) hok2 hn hs
        | some z => obtain ⟨il, wd, ks, p⟩ := z; exact stmt_set_yes cs name sec len fr to k1 n1 o1 m1 l1 k2 n2 o2 m2 l2 body els a1 c1 a2 c2 a3 c3 a4 c4 w hcs hg hr2 hc2 (by omega) hok2 hn il wd ks p hs
    by_cases h2 : kind = 2
    · subst h2
      rcases hn : isName name with _ | _
      · exact stmt_new_name cs name sec len fr to k1 n1 o1 m1 l1 k2 n2 o2 m2 l2 body els a1 c1 a2 c2 a3 c3 a4 c4 w hcs hn
      · cases hs : shNum len 1 16 with
        | none => exact stmt_new_len cs name sec len fr to k1 n1 o1 m1 l1 k2 n2 o2 m2 l2 body els a1 c1 a2 c2 a3 c3 a4 c4 w hcs hn hs
        | some z => obtain ⟨il, wd, ks, p⟩ := z; exact stmt_new_yes cs name sec len fr to k1 n1 o1 m1 l1 k2 n2 o2 m2 l2 body els a1 c1 a2 c2 a3 c3 a4 c4 w hcs hn il wd ks p hs
    by_cases h4 : kind = 4
    · subst h4
      rcases hn : isName name with _ | _
      · exact stmt_put_name cs name sec len fr to k1 n1 o1 m1 l1 k2 n2 o2 m2 l2 body els a1 c1 a2 c2 a3 c3 a4 c4 w hcs hn
      · cases hs1 : shE (.mk k1 n1 o1 m1 l1) with
        | none => exact stmt_put_ix cs name sec len fr to k1 n1 o1 m1 l1 k2 n2 o2 m2 l2 body els a1 c1 a2 c2 a3 c3 a4 c4 w hcs hg hr1 hc1 (by omega) hok1 hr2 hc2 (by omega) hok2 hn hs1
        | some z1 =>
          obtain ⟨il1, wd1, ks1, p1⟩ := z1
          cases hs2 : shE (.mk k2 n2 o2 m2 l2) with
          | none => exact stmt_put_e cs name sec len fr to k1 n1 o1 m1 l1 k2 n2 o2 m2 l2 body els a1 c1 a2 c2 a3 c3 a4 c4 w hcs hg hr1 hc1 (by omega) hok1 hr2 hc2 (by omega) hok2 hn il1 wd1 ks1 p1 hs1 hs2
          | some z2 => obtain ⟨il2, wd2, ks2, p2⟩ := z2; exact stmt_put_yes cs name sec len fr to k1 n1 o1 m1 l1 k2 n2 o2 m2 l2 body els a1 c1 a2 c2 a3 c3 a4 c4 w hcs hg hr1 hc1 (by omega) hok1 hr2 hc2 (by omega) hok2 hn il1 wd1 ks1 p1 hs1 il2 wd2 ks2 p2 hs2
    by_cases h5 : kind = 5
    · subst h5
      have hF : ∀ w1, St w cs w1 → Calls Tryz.prog 109 #[.agg cs] w1 (Shows NdV w1 (forR name fr to body)) := fun w1 h =>
        forNode_any cs name fr to body a3 c3 w1 (by rw [hcs]; rfl) (by rw [hcs]; rfl) (by rw [hcs]; rfl) (by rw [hcs]; rfl) (fun w2 h' => hE body a3 c3 hr3 (by omega) (by omega) hok3 w2 (bl_then h.bl h'.bl)) (by have := smWs_len body; omega)
      cases hs : forR name fr to body with
      | none => rw [hs] at hF; exact stmt_for_no cs name sec len fr to k1 n1 o1 m1 l1 k2 n2 o2 m2 l2 body els a1 c1 a2 c2 a3 c3 a4 c4 w hcs hF hs
      | some z => obtain ⟨il, wd, ks, p⟩ := z; rw [hs] at hF; exact stmt_for_yes cs name sec len fr to k1 n1 o1 m1 l1 k2 n2 o2 m2 l2 body els a1 c1 a2 c2 a3 c3 a4 c4 w hcs il wd ks p hs hF
    by_cases h6 : kind = 6
    · subst h6
      have hB3 : ∀ w1, St w cs w1 → _ := fun w1 h => hE body a3 c3 hr3 (by omega) (by omega) hok3 w1 h.bl
      have hB4 : ∀ w1, St w cs w1 → _ := fun w1 h => hE els a4 c4 hr4 (by omega) (by omega) hok4 w1 h.bl
      cases hs2 : shE (.mk k2 n2 o2 m2 l2) with
      | none => exact stmt_if_e cs name sec len fr to k1 n1 o1 m1 l1 k2 n2 o2 m2 l2 body els a1 c1 a2 c2 a3 c3 a4 c4 w hcs hg hr2 hc2 (by omega) hok2 hs2
      | some z2 =>
        obtain ⟨il2, wd2, ks2, p2⟩ := z2
        cases hs3 : shSs body with
        | none => rw [hs3] at hB3; exact stmt_if_body cs name sec len fr to k1 n1 o1 m1 l1 k2 n2 o2 m2 l2 body els a1 c1 a2 c2 a3 c3 a4 c4 w hcs hg hr2 hc2 (by omega) hok2 il2 wd2 ks2 p2 hs2 hs3 hB3
        | some z3 =>
          have hl3 := eachO_len shS body z3 (by rw [← shSs_each]; exact hs3)
          have hw3 := smWs_len body
          rw [hs3] at hB3
          cases hs4 : shSs els with
          | none => rw [hs4] at hB4; exact stmt_if_els cs name sec len fr to k1 n1 o1 m1 l1 k2 n2 o2 m2 l2 body els a1 c1 a2 c2 a3 c3 a4 c4 w hcs hg hr2 hc2 (by omega) hok2 il2 wd2 ks2 p2 hs2 z3 (by omega) hs3 hs4 hB3 hB4
          | some z4 =>
            have hl4 := eachO_len shS els z4 (by rw [← shSs_each]; exact hs4)
            have hw4 := smWs_len els
            rw [hs4] at hB4
            exact stmt_if_yes cs name sec len fr to k1 n1 o1 m1 l1 k2 n2 o2 m2 l2 body els a1 c1 a2 c2 a3 c3 a4 c4 w hcs hg hr2 hc2 (by omega) hok2 il2 wd2 ks2 p2 hs2 z3 (by omega) z4 (by omega) hs3 hs4 hB3 hB4
    refine stmt_none cs kind w _ ?_ (by rw [hcs]; rfl) (by rw [hcs]; rfl) (by rw [hcs]; simp [smA, Value.oneCell']) h1 h2 h3 h4 h5 h6
    rw [shS, if_neg h1, if_neg h3, if_neg h2, if_neg h4, if_neg h5, if_neg h6]
end Go.Proofs.YtbpdhegfdmppgaaGreatDoor.Sh

/- CONTRACT of paramNode. -/
namespace Go.Proofs.YtbpdhegfdmppgaaGreatDoor.Sh
open Go.ChangeShapes Go.WideShapes Go.ChangeAt Go.RowKit

/-- Where a call is that has its argument's block and its result's. -/
structure Pr (w : World) (t : TypeId) (cs : Array Value) (w' : World) : Prop where
  box : w'.heap[w.heap.size]? = some (.cells cs t)
  res : w'.heap[w.heap.size + 1]? = some nd0
  bl : Below w.heap.size w w'
section
variable {w : World} {t : TypeId} {cs : Array Value} {w1 w2 : World}
theorem Pr.on (h : Pr w t cs w1) (hb : Below w1.heap.size w1 w2) : Pr w t cs w2 :=
  ⟨by rw [hb.block _ (lt_of_some h.box)]; exact h.box, by rw [hb.block _ (lt_of_some h.res)]; exact h.res, bl_then h.bl hb⟩
theorem Pr.alloc (h : Pr w t cs w1) (o : Obj) : Pr w t cs (w1.alloc o) := h.on ((Below.refl _ _).alloc (Nat.le_refl _) o)
theorem Pr.lt (h : Pr w t cs w1) : w.heap.size + 2 ≤ w1.heap.size := lt_of_some h.res
theorem Pr.cell (h : Pr w t cs w1) (i : Nat) : w1.cell? ⟨w.heap.size, i, none⟩ = cs[i]? := by simp [World.cell?, h.box]
theorem Pr.start (w : World) (t : TypeId) (cs : Array Value) : Pr w t cs ((w.alloc (.cells cs t)).alloc nd0) := ⟨(at_two w _ _).1, (at_two w _ _).2, bl_two w _ _⟩
theorem Pr.grow {row : Option Nat} (h : Pr w t cs w1) (hg : w1.grownBy w2 row) (hr : ∀ k, row = some k → w.heap.size + 2 ≤ k) : Pr w t cs w2 := by
  have hb : ∀ k, k < w.heap.size + 2 → w2.heap[k]? = w1.heap[k]? := fun k hk => hg.block k (Nat.lt_of_lt_of_le hk h.lt) fun e => by have := hr k e.symm; omega
  exact ⟨by rw [hb _ (by omega)]; exact h.box, by rw [hb _ (by omega)]; exact h.res, ⟨hg.os.trans h.bl.os, hg.tape.trans h.bl.tape, hg.output.trans h.bl.output, Nat.le_trans h.bl.size hg.size, fun k hk => by rw [hb k (by omega)]; exact h.bl.block k hk⟩⟩
end
set_option maxRecDepth 100000 in
set_option maxHeartbeats 2000000 in
theorem param_name (name : List UInt8) (sec : Bool) (len : Int) (w : World) (hn : isName name = false) : Calls Tryz.prog 86 #[.agg #[.string (bs name), .bool sec, .int .i64 len]] w (Shows NdV w (shP ⟨name, sec, len⟩)) := by
  have HF : Hid (shP ⟨name, sec, len⟩ = none) := by show _ = _; rw [shP, shName, hn]; rfl
  have hnm := nameNode_any name
  have hns : shName name = none := by rw [shName, hn]; rfl
  rw [hns] at hnm
  clear hn hns
  have R0 := Pr.start w 79 #[.string (bs name), .bool sec, .int .i64 len]
  go_enter Tryz.func86, Tryz.ntmps86
  go_wp2_with fail
  generalize (w.alloc (.cells #[.string (bs name), .bool sec, .int .i64 len] 79)).alloc nd0 = w1 at R0 ⊢
  have R1 := R0.on (drew_bl w1)
  have t0 : w1.cell? ⟨w.heap.size, 0, none⟩ = some (.string (bs name)) := R0.cell 0
  have t1 : w1.cell? ⟨w.heap.size, 1, none⟩ = some (.bool sec) := R0.cell 1
  go_region_law (first | (refine step_call rfl 77 _ _ rfl #[.string (bs name)] (by simp [go_sem, Act.eval]) ?_; refine (hnm _).mono ?_; rintro e w2 hG2; obtain rfl := hG2.bad rfl; refine (fun (_ : wpAny Tryz.prog Region.Mode.any #[] (fun _ _ _ => True) 0 #[] ⟨#[], []⟩ w1) => ⟨rfl, .ofBad HF.out (bl_then R1.bl hG2.below)⟩) ?_))
  all_goals trivial
set_option maxRecDepth 100000 in
set_option maxHeartbeats 2000000 in
theorem param_yes (name : List UInt8) (sec : Bool) (len : Int) (w : World) (hn : isName name = true) : Calls Tryz.prog 86 #[.agg #[.string (bs name), .bool sec, .int .i64 len]] w (Shows NdV w (shP ⟨name, sec, len⟩)) := by
  have hnm := nameNode_any name
  rw [shName, if_pos hn] at hnm
  have hla := labelNode_any sec
  have HFP : Hid (shP ⟨name, sec, len⟩ = if len = 0 then some (ls [lf name, shLab sec]) else (shNum len 1 16).map fun b => ls [lf name, shLab sec, b]) := by show _ = _; rw [shP, shName, if_pos hn]; rfl
  clear hn
  have R0 := Pr.start w 79 #[.string (bs name), .bool sec, .int .i64 len]
  go_enter Tryz.func86, Tryz.ntmps86
  go_wp2_with fail
  generalize (w.alloc (.cells #[.string (bs name), .bool sec, .int .i64 len] 79)).alloc nd0 = w1 at R0 ⊢
  have R1 := R0.on (drew_bl w1)
  have sz := R0.lt
  have s1 : w1.cell? ⟨w.heap.size, 0, none⟩ = some (.string (bs name)) ∧ w1.cell? ⟨w.heap.size, 1, none⟩ = some (.bool sec) := ⟨R0.cell 0, R0.cell 1⟩
  go_region_held3 (fun w' => w'.cell? ⟨w.heap.size, 0, none⟩ = some (.string (bs name)) ∧ w'.cell? ⟨w.heap.size, 1, none⟩ = some (.bool sec))
    (first | exact ⟨(R3.alloc _).cell 0, (R3.alloc _).cell 1⟩ | exact ⟨R3.cell 0, R3.cell 1⟩ | exact ⟨R2.cell 0, R2.cell 1⟩ | exact ⟨R1.cell 0, R1.cell 1⟩ | go_keep)
    (first | (go_at_call 77; refine (hnm _).mono ?_; rintro e w2 hG2; obtain ⟨v2, rfl, a21, k21, rfl, hc21, hr21⟩ := hG2.ok _ rfl; have R2 := R1.on hG2.below; have sz2 := R2.lt) | (go_at_call 87; refine (hla _).mono ?_; rintro e w3 ⟨rfl, hb3⟩; have R3 := R2.on hb3; have sz3 := R3.lt))
  have hl3 : kNd.lay w3 (fun b => w.heap.size + 2 ≤ b ∧ b < w3.heap.size) [.bool false, .string (bs name), .slice a21 ([] : List Nd).length k21, .int .i64 0, .bool false, .string (bs (lab sec)), .slice none ([] : List Nd).length 0, .int .i64 0] [lf name, shLab sec] :=
    ⟨_, _, rfl, nd_C hc21 (kNd.row_mono (by decide) (row_on hr21 hb3) (fun i hi hlt => ⟨⟨by have : w1.heap.size ≤ i := hi; omega, hlt⟩, rfl⟩)), _, _, rfl, nd_C (Nat.le_refl _) trivial, rfl⟩
  have hown5 := own_n w3 w3.heap.size 66 4 2 [.bool false, .string (bs name), .slice a21 ([] : List Nd).length k21, .int .i64 0, .bool false, .string (bs (lab sec)), .slice none ([] : List Nd).length 0, .int .i64 0] (Nat.le_refl _) rfl (by omega)
  have R5 := R3.alloc (.cells [.bool false, .string (bs name), .slice a21 ([] : List Nd).length k21, .int .i64 0, .bool false, .string (bs (lab sec)), .slice none ([] : List Nd).length 0, .int .i64 0].toArray 66)
  have hl5 := kNd.lay_mono (w' := w3.alloc (.cells [.bool false, .string (bs name), .slice a21 ([] : List Nd).length k21, .int .i64 0, .bool false, .string (bs (lab sec)), .slice none ([] : List Nd).length 0, .int .i64 0].toArray 66)) hl3 (fun b hb hlt => ⟨hb, heap_alloc_old w3 _ hlt⟩)
  have hz5 : (w3.alloc (.cells [.bool false, .string (bs name), .slice a21 ([] : List Nd).length k21, .int .i64 0, .bool false, .string (bs (lab sec)), .slice none ([] : List Nd).length 0, .int .i64 0].toArray 66)).heap.size = w3.heap.size + 1 := by simp
  generalize w3.alloc (.cells [.bool false, .string (bs name), .slice a21 ([] : List Nd).length k21, .int .i64 0, .bool false, .string (bs (lab sec)), .slice none ([] : List Nd).length 0, .int .i64 0].toArray 66) = w5 at hown5 R5 hl5 hz5 ⊢
  generalize ([.bool false, .string (bs name), .slice a21 ([] : List Nd).length k21, .int .i64 0, .bool false, .string (bs (lab sec)), .slice none ([] : List Nd).length 0, .int .i64 0] : List Value) = X at hown5 hl5
  have HL5 : Hid _ := hl5
  have HO5 : Hid (w5.ownsRow w3.heap.size 66 4 (.slice (some ⟨w3.heap.size, 0, none⟩) 2 2) 2 X) := hown5
  have cb5 := R5.cell
  have hz5' : w.heap.size < w5.heap.size := by omega
  clear hl5 hown5 hl3 R3 R2 R1 R0 hG2 hb3 hr21 s1 hnm hla hc21
  by_cases h0 : len = 0
  · subst h0
    obtain ⟨a', c', he, hrow, hcc⟩ := kNd.own_rd (t := 66) (T := fun b => w.heap.size + 2 ≤ b) (l := [lf name, shLab sec]) ⟨_, HO5.out, HL5.out⟩ (fun b hb => hb.1) fun g hg => by have := (HO5.out.lt g hg).1; omega
    have HRW : Hid (kNd.row w5 (fun b => w.heap.size + 2 ≤ b) a' [lf name, shLab sec]) := hrow
    injection he with i1 i2 i3
    subst i1 i3
    clear hrow i2
    go_wp2_with (first | (go_at_call 84; refine (list_any _ _ _ _).mono ?_; rintro e w6 ⟨rfl, hb6⟩; refine Hid.out ?_))
    refine Lib.hid ?_
    have R6 := R5.on hb6
    have hres6 := R6.res
    have hlt6 : w.heap.size + 1 < w6.heap.size := R6.lt
    have HB6 : Hid (Below w.heap.size w w6) := R6.bl
    have HR6 : Hid (kNd.row w6 (fun b => w.heap.size + 2 ≤ b) (some ⟨w3.heap.size, 0, none⟩) [lf name, shLab sec]) := row_on HRW.out hb6
    obtain ⟨d0, d1, d2, d3, g0, g1, g2, g3⟩ := nd_free hres6
    clear R6 R5 hb6 cb5
    go_wp2_with fail
    exact bodyPost_ret_by (results_row Tryz.results86 rfl (load_nd (set4c hres6) rfl)) rfl (.ofOk (x := ls [lf name, shLab sec]) (by rw [HFP.out]; rfl) (bl_set4 HB6.out _ _ _ _ _ (by omega)) ⟨some ⟨w3.heap.size, 0, none⟩, 2, rfl, Nat.le_refl _, kNd.row_mono (by decide) HR6.out fun i hi _ => ⟨by omega, set4o (by omega)⟩⟩)
  · have h0' : (len == 0) = false := by simpa using h0
    have hnu := number_any len 1 16 (by omega) (by omega)
    rw [if_neg h0] at HFP
    clear h0
    cases hs : shNum len 1 16 with
    | none =>
      rw [hs] at hnu HFP
      clear hs
      go_wp2_with (first | (go_at_call 108; refine (hnu _).mono ?_; rintro e w6 hG6; obtain rfl := hG6.bad rfl))
      exact ⟨rfl, .ofBad (by rw [HFP.out]; rfl) (bl_then R5.bl hG6.below)⟩
    | some x =>
      obtain ⟨il, wd, ks, p⟩ := x
      rw [hs] at hnu HFP
      clear hs
      go_wp2_with (first | (go_at_call 108; refine (hnu _).mono ?_; rintro e w6 hG6; obtain ⟨v6, rfl, a6, k6, rfl, hc6, hr6⟩ := hG6.ok _ rfl; refine Hid.out ?_))
      refine Lib.hid ?_
      have hb6 := hG6.below
      have R6 := (R5.on hb6).alloc (.cells #[.bool il, .string (bs wd), .slice a6 ks.length k6, .int .i64 p] 66)
      have hz6 := hb6.size
      have hown6 := own_on (own_on HO5.out hb6) (bl_alloc (Below.refl _ _) (.cells #[.bool il, .string (bs wd), .slice a6 ks.length k6, .int .i64 p] 66))
      have HL6 : Hid (kNd.lay (w6.alloc (.cells #[.bool il, .string (bs wd), .slice a6 ks.length k6, .int .i64 p] 66)) (fun b => w.heap.size + 2 ≤ b ∧ b < w3.heap.size) X [lf name, shLab sec]) := kNd.lay_mono HL5.out fun b hb hlt => ⟨hb, by rw [heap_alloc_old w6 _ (by omega)]; exact hb6.block b hlt⟩
      have HLN : Hid (kNd.lay (w6.alloc (.cells #[.bool il, .string (bs wd), .slice a6 ks.length k6, .int .i64 p] 66)) (fun b => w5.heap.size ≤ b ∧ b < w6.heap.size) [.bool il, .string (bs wd), .slice a6 ks.length k6, .int .i64 p] [.mk il wd ks p]) :=
        ⟨_, _, rfl, nd_C hc6 (kNd.row_mono (by decide) hr6 fun i hi hlt => ⟨⟨hi, hlt⟩, heap_alloc_old w6 _ hlt⟩), rfl⟩
      have hsrc := src_blk w6 23 66 Tryz.underlying23 w6.heap.size 4 [.bool il, .string (bs wd), .slice a6 ks.length k6, .int .i64 p] rfl rfl (by simp [Value.oneCell'])
      clear hG6 cb5 hr6 hnu
      go_wp2_with (first | (at_builtin; refine wpList_append_src nd_info rfl Tryz.underlying23 (by decide) _ rfl _ _ rfl w3.heap.size (Value.slice (some ⟨w3.heap.size, 0, none⟩) 2 2) 2 X rfl hown6 _ 1 [.bool il, .string (bs wd), .slice a6 ks.length k6, .int .i64 p] rfl hsrc (by omega) (by simp; omega) ?_; intro y7 k7 w7 hown7 hgrow7 hat7; refine Hid.out ?_) | go_in)
      refine Lib.hid ?_
      have R7 := R6.grow hgrow7 (fun k e => by simp [Value.ownBlock] at e; omega)
      obtain ⟨hrow7, hc7⟩ := lead_rows (g := w3.heap.size) (l := [lf name, shLab sec]) (n := 3) rfl HL6.out HLN.out hgrow7 (fun b hb => ⟨by have := hb.2; simp; omega, by have := hb.1; omega⟩) (fun b hb => ⟨by simp; omega, by omega⟩) hown7
      have HR7 : Hid (kNd.row w7 (fun b => w.heap.size + 2 ≤ b) y7 [lf name, shLab sec, .mk il wd ks p]) := kNd.row_mono (by decide) hrow7 fun b hb _ => ⟨by rcases hb with (hb | hb) | hb; exact hb.1; (have := hb.1; omega); omega, rfl⟩
      clear hrow7 hown7 hgrow7 hat7 hsrc hown6
      go_wp2_with (first | (go_at_call 84; refine (list_any _ _ _ _).mono ?_; rintro e w8 ⟨rfl, hb8⟩; refine Hid.out ?_))
      refine Lib.hid ?_
      have R8 := R7.on hb8
      have hres8 := R8.res
      have hlt8 : w.heap.size + 1 < w8.heap.size := R8.lt
      have HB8 : Hid (Below w.heap.size w w8) := R8.bl
      have HR8 : Hid (kNd.row w8 (fun b => w.heap.size + 2 ≤ b) y7 [lf name, shLab sec, .mk il wd ks p]) := row_on HR7.out hb8
      obtain ⟨d0, d1, d2, d3, g0, g1, g2, g3⟩ := nd_free hres8
      clear R8 R7 R6 R5 hb8 hb6
      go_wp2_with fail
      exact bodyPost_ret_by (results_row Tryz.results86 rfl (load_nd (set4c hres8) rfl)) rfl (.ofOk (x := ls [lf name, shLab sec, .mk il wd ks p]) (by rw [HFP.out]; rfl) (bl_set4 HB8.out _ _ _ _ _ (by omega)) ⟨y7, k7, rfl, hc7, kNd.row_mono (by decide) HR8.out fun i hi _ => ⟨by omega, set4o (by omega)⟩⟩)
theorem param_any (x : Pa) (w : World) : Calls Tryz.prog 86 #[.agg #[.string (bs x.name), .bool x.sec, .int .i64 x.len]] w (Shows NdV w (shP x)) := by
  obtain ⟨name, sec, len⟩ := x
  rcases hn : isName name with _ | _
  · exact param_name name sec len w hn
  · exact param_yes name sec len w hn
end Go.Proofs.YtbpdhegfdmppgaaGreatDoor.Sh

/- CONTRACT of funcNode. -/
namespace Go.Proofs.YtbpdhegfdmppgaaGreatDoor.Sh
open Go.ChangeShapes Go.WideShapes Go.ChangeAt Go.RowKit

abbrev fuA (name : List UInt8) (a1 : Option Addr) (z1 c1 : Nat) (sec : Bool) (a2 : Option Addr) (z2 c2 : Nat) (kk : Int) (nn : Nat) (oo : Int) (mm : List UInt8) (a3 : Option Addr) (z3 c3 : Nat) : Array Value :=
  #[.string (bs name), .slice a1 z1 c1, .bool sec, .slice a2 z2 c2, .int .i64 kk, .int .u32 nn, .int .i64 oo, .string (bs mm), .slice a3 z3 c3]
theorem lead_lay {w3 w4 : World} {g : Nat} {S S' T : Nat → Prop} {l zs : List Nd} {xs cs : List Value} (hx : kNd.lay w3 S' xs l) (hlay : kNd.lay w3 S cs zs) (hg : w3.grownBy w4 (some g)) (hS : ∀ b, S b → T b ∧ b < w3.heap.size ∧ b ≠ g) (hS' : ∀ b, S' b → T b ∧ b < w3.heap.size ∧ b ≠ g) : kNd.lay w4 T (xs ++ cs) (l ++ zs) := by
  have hg' : ∀ {b : Nat}, b < w3.heap.size ∧ b ≠ g → w4.heap[b]? = w3.heap[b]? := fun {b} h => hg.block b h.1 fun e => h.2 (by cases e; rfl)
  exact kNd.lay_cat (kNd.lay_mono hlay fun b hb _ => ⟨(hS b hb).1, hg' (hS b hb).2⟩) (kNd.lay_mono hx fun b hb _ => ⟨(hS' b hb).1, hg' (hS' b hb).2⟩)
theorem eachPar {B : Nat} {S : Nat → Prop} {w : World} {a : Option Addr} {l : List Pa} {c : Nat} (hr : kPa.row w S a l) (hl : l.length ≤ 1000000) (hg : Glob B w) : Calls Tryz.prog 85 #[.slice a l.length c, .func (.func 86) #[] #[]] w (Shows kNd.rd w (eachO shP l)) :=
  eachP_any w a l c hr hl hg fun x _ S' w1 v _ hv => by
    obtain ⟨cs, rfl, rfl⟩ := hv
    exact param_any x w1
/-- What a function's parts show as. -/
structure FuOk (B : Nat) (S : Nat → Prop) (w : World) (a1 : Option Addr) (params : List Pa) (a2 : Option Addr) (body : List Sm) (c3 : Nat) (kk : Int) (nn : Nat) (oo : Int) (mm : List UInt8) (a3 : Option Addr) (ll : List Ex) : Prop where
  glob : Glob B w
  r1 : kPa.row w S a1 params
  r2 : smR w S a2 body
  r3 : exR w S a3 ll
  lc : ll.length ≤ c3
  w2 : smWs body ≤ 100000
  w3 : exW (.mk kk nn oo mm ll) ≤ 1000000
  o2 : smOks body
  o3 : exOk (.mk kk nn oo mm ll)
section
variable {B : Nat} {S : Nat → Prop} {w : World} {a1 : Option Addr} {params : List Pa} {a2 : Option Addr} {body : List Sm} {c3 : Nat} {kk : Int} {nn : Nat} {oo : Int} {mm : List UInt8} {a3 : Option Addr} {ll : List Ex}
theorem FuOk.pars (h : FuOk B S w a1 params a2 body c3 kk nn oo mm a3 ll) (c : Nat) (hl : params.length ≤ 1000000) {w1 : World} (hb : Below w.heap.size w w1) : Calls Tryz.prog 85 #[.slice a1 params.length c, .func (.func 86) #[] #[]] w1 (Shows kNd.rd w1 (eachO shP params)) :=
  eachPar (kPa.row_mono (T := S) (by decide) h.r1 fun i hi hlt => ⟨hi, hb.block i hlt⟩) hl (h.glob.below hb)
theorem FuOk.stmts (h : FuOk B S w a1 params a2 body c3 kk nn oo mm a3 ll) (c : Nat) {w1 : World} (hb : Below w.heap.size w w1) : Calls Tryz.prog 88 #[.slice a2 body.length c, .func (.func 89) #[] #[]] w1 (Shows kNd.rd w1 (shSs body)) :=
  (stmt_all _).each (smR_mono (T := S) (fun i hi hlt => ⟨hi, hb.block i hlt⟩) h.r2) (h.glob.below hb) (Nat.le_refl _) h.w2 h.o2
theorem FuOk.result (h : FuOk B S w a1 params a2 body c3 kk nn oo mm a3 ll) {w1 : World} (hb : Below w.heap.size w w1) : Calls Tryz.prog 90 #[exV kk nn oo mm a3 ll.length c3] w1 (Shows NdV w1 (shE (.mk kk nn oo mm ll))) :=
  expr_any _ w1 _ h.w3 h.o3 (h.glob.below hb) ⟨a3, c3, rfl, h.lc, exR_mono (T := S) (fun i hi hlt => ⟨hi, hb.block i hlt⟩) h.r3⟩
end
set_option maxRecDepth 100000 in
set_option maxHeartbeats 2000000 in
theorem func_many (cs : Array Value) (params : List Pa) (a1 : Option Addr) (c1 : Nat) (w : World) (res : Option Nd) (hres : res = none) (q1 : cs[1]? = some (.slice a1 params.length c1)) (h6 : ¬ params.length ≤ 6) : Calls Tryz.prog 45 #[.agg cs] w (Shows NdV w res) := by
  have HF : Hid (res = none) := hres
  have g3 : decide ((params.length : Int) ≤ 6) = false := by simp; omega
  have g4 : (6 : Int) < (params.length : Int) := by omega
  clear h6 hres
  have R0 := Pr.start w 47 cs
  have cb := R0.cell
  have hz : w.heap.size < ((w.alloc (.cells cs 47)).alloc nd0).heap.size := by simp; omega
  go_enter Tryz.func45, Tryz.ntmps45
  go_wp2_with (first | (go_at_call 75; refine (must_no _).mono ?_; rintro e w2 ⟨rfl, rfl⟩))
  exact ⟨rfl, .ofBad HF.out R0.bl⟩
set_option maxRecDepth 100000 in
set_option maxHeartbeats 2000000 in
theorem func_name (cs : Array Value) (name : List UInt8) (params : List Pa) (sec : Bool) (body : List Sm) (kk : Int) (nn : Nat) (oo : Int) (mm : List UInt8) (ll : List Ex) (a1 : Option Addr) (c1 : Nat) (a2 : Option Addr) (c2 : Nat) (a3 : Option Addr) (c3 : Nat) (w : World) (hcs : cs = fuA name a1 params.length c1 sec a2 body.length c2 kk nn oo mm a3 ll.length c3) (h6 : params.length ≤ 6) (hn : isName name = false) : Calls Tryz.prog 45 #[.agg cs] w (Shows NdV w (shF ⟨name, params, sec, body, .mk kk nn oo mm ll⟩)) := by
  have HF : Hid (shF ⟨name, params, sec, body, .mk kk nn oo mm ll⟩ = none) := by show _ = _; rw [shF, if_pos h6, shName, hn]; rfl
  have hnm := nameNode_any name
  have hns : shName name = none := by rw [shName, hn]; rfl
  rw [hns] at hnm
  have h6' : (params.length : Int) ≤ 6 := by omega
  have q0 : cs[0]? = some (.string (bs name)) := by rw [hcs]; rfl
  have q1 : cs[1]? = some (.slice a1 params.length c1) := by rw [hcs]; rfl
  have q2 : cs[2]? = some (.bool sec) := by rw [hcs]; rfl
  clear hn hns hcs h6
  have R0 := Pr.start w 47 cs
  have cb := R0.cell
  have hz : w.heap.size < ((w.alloc (.cells cs 47)).alloc nd0).heap.size := by simp; omega
  go_enter Tryz.func45, Tryz.ntmps45
  go_wp2_with (first | (go_at_call 75; refine (must_yes _).mono ?_; rintro e w2 ⟨rfl, rfl⟩))
  clear cb hz
  generalize (w.alloc (.cells cs 47)).alloc nd0 = w1 at R0 ⊢
  have R1 : Pr w 47 cs w1.drew := R0.on (drew_bl w1)
  have sz := R0.lt
  have t0 := (R0.cell 0).trans q0
  have t1 := (R0.cell 1).trans q1
  have t2 := (R0.cell 2).trans q2
  go_region_law (first | (refine step_call rfl 77 _ _ rfl #[.string (bs name)] (by simp [go_sem, Act.eval]) ?_; refine (hnm _).mono ?_; rintro e w2 hG2; obtain rfl := hG2.bad rfl; refine (fun (_ : wpAny Tryz.prog Region.Mode.any #[] (fun _ _ _ => True) 0 #[] ⟨#[], []⟩ w1) => ⟨rfl, .ofBad HF.out (bl_then R1.bl hG2.below)⟩) ?_))
  all_goals trivial
set_option maxRecDepth 100000 in
set_option maxHeartbeats 2000000 in
theorem func_pars {B : Nat} {S : Nat → Prop} (cs : Array Value) (name : List UInt8) (params : List Pa) (sec : Bool) (body : List Sm) (kk : Int) (nn : Nat) (oo : Int) (mm : List UInt8) (ll : List Ex) (a1 : Option Addr) (c1 : Nat) (a2 : Option Addr) (c2 : Nat) (a3 : Option Addr) (c3 : Nat) (w : World) (hcs : cs = fuA name a1 params.length c1 sec a2 body.length c2 kk nn oo mm a3 ll.length c3) (h6 : params.length ≤ 6) (hO : FuOk B S w a1 params a2 body c3 kk nn oo mm a3 ll) (hn : isName name = true) (hs : eachO shP params = none) : Calls Tryz.prog 45 #[.agg cs] w (Shows NdV w (shF ⟨name, params, sec, body, .mk kk nn oo mm ll⟩)) := by
  have HF : Hid (shF ⟨name, params, sec, body, .mk kk nn oo mm ll⟩ = none) := by show _ = _; rw [shF, if_pos h6, shName, if_pos hn, hs]; rfl
  have hnm := nameNode_any name
  rw [shName, if_pos hn] at hnm
  have HP : Hid (∀ w1, Pr w 47 cs w1 → Calls Tryz.prog 85 #[.slice a1 params.length c1, .func (.func 86) #[] #[]] w1 (Shows kNd.rd w1 none)) := fun w1 h => by rw [← hs]; exact hO.pars c1 (by omega) h.bl
  have h6' : (params.length : Int) ≤ 6 := by omega
  have q0 : cs[0]? = some (.string (bs name)) := by rw [hcs]; rfl
  have q1 : cs[1]? = some (.slice a1 params.length c1) := by rw [hcs]; rfl
  have q2 : cs[2]? = some (.bool sec) := by rw [hcs]; rfl
  clear hn hcs h6 hs hO
  have R0 := Pr.start w 47 cs
  have cb := R0.cell
  have hz : w.heap.size < ((w.alloc (.cells cs 47)).alloc nd0).heap.size := by simp; omega
  go_enter Tryz.func45, Tryz.ntmps45
  go_wp2_with (first | (go_at_call 75; refine (must_yes _).mono ?_; rintro e w2 ⟨rfl, rfl⟩))
  clear cb hz
  generalize (w.alloc (.cells cs 47)).alloc nd0 = w1 at R0 ⊢
  have R1 : Pr w 47 cs w1.drew := R0.on (drew_bl w1)
  have sz := R0.lt
  have t0 := (R0.cell 0).trans q0
  have t1 := (R0.cell 1).trans q1
  have t2 := (R0.cell 2).trans q2
  go_region_law (first | (refine step_call rfl 77 _ _ rfl #[.string (bs name)] (by simp [go_sem, Act.eval]) ?_; refine (hnm _).mono ?_; rintro e w2 hG2; obtain ⟨v2, rfl, a21, k21, rfl, hc21, hr21⟩ := hG2.ok _ rfl; have R2 := R1.on hG2.below; have u0 := (R2.cell 0).trans q0; have u1 := (R2.cell 1).trans q1; have u2 := (R2.cell 2).trans q2) | (refine step_call rfl 85 _ _ rfl #[.slice a1 params.length c1, .func (.func 86) #[] #[]] (by simp [go_sem, Act.eval]) ?_; refine (HP.out _ R2).mono ?_; rintro e w3 hG3; obtain rfl := hG3.bad rfl; refine (fun (_ : wpAny Tryz.prog Region.Mode.any #[] (fun _ _ _ => True) 0 #[] ⟨#[], []⟩ w1) => ⟨rfl, .ofBad HF.out (bl_then R2.bl hG3.below)⟩) ?_))
  all_goals trivial
end Go.Proofs.YtbpdhegfdmppgaaGreatDoor.Sh
