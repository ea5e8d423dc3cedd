/- Texts of this proof, put together: TRow, TParam, TParams, TBegins, TImports, TStmts, TRh, TStlet, TStset, TStnew. -/
import Derived.Test.YtbpdhegfdmppgaaGreatDoorM33
import Derived.Laws.Tables
import Derived.Deep.RegionLaw

/- WHOLE STRUCTS loaded and stored at once. -/
namespace Go.Proofs.YtbpdhegfdmppgaaGreatDoor
open Go.ChangeShapes Go.WideShapes Go.ChangeAt Go.RowKit

theorem info_stmt : (Tryz.prog.info? 110).map (·.size) = some 18 := by kernel_rfl
theorem setRow_kept {M : Nat → Prop} {w w3 : World} {b : Nat} (cs : Array Value) (h : Kept M w w3) (hw : w.heap.size ≤ b) : Kept M w (w3.setRow b cs) :=
  ⟨h.os, h.tape, h.output, by simpa [World.setRow] using h.size, fun i hi hm => by
    have : (w3.setRow b cs).heap[i]? = w3.heap[i]? := by simp [World.setRow, Array.getElem?_modify]; intro e; omega
    rw [this]; exact h.block i hi hm⟩
theorem setRow_in (w : World) (b : Nat) (cs : Array Value) : Kept (fun k => k = b) w (w.setRow b cs) :=
  ⟨rfl, rfl, rfl, by simp [World.setRow], fun i hi hm => by simp [World.setRow, Array.getElem?_modify]; intro e; exact absurd e.symm hm⟩
theorem setRow_at {w : World} {b : Nat} {old cs : Array Value} {t : TypeId} {f : Nat × Nat} (h : w.heap[b]? = some (.cells old t f)) : (w.setRow b cs).heap[b]? = some (.cells cs t f) := by
  simp [World.setRow, Array.getElem?_modify, h]
/-- The result is read out of its block. -/
theorem results_row {fn : Func} {tmps : Array Value} {W : World} {b K : Nat} {ty : TypeId} {cs : Array Value} (hr : fn.results = #[ResultVar.cell K ty]) (ht : tmps[K]?.getD undef = .pointer (some ⟨b, 0, none⟩))
    (hl : (loadVar ty ⟨b, 0, none⟩).run Tryz.prog W = .ok (.agg cs) W) : (results fn tmps).run Tryz.prog W = .ok (.agg cs) W := by
  simp only [results, hr]
  simp [ht, asAddr, hl]
theorem load_stmt {W : World} {b : Nat} {cs : Array Value} {t : TypeId} {f : Nat × Nat} (h : W.heap[b]? = some (.cells cs t f)) (hs : cs.size = 18) : (loadVar 110 ⟨b, 0, none⟩).run Tryz.prog W = .ok (.agg cs) W :=
  run_loadVar_row W b t 110 cs f _ h Tryz.underlying110 rfl (by rw [hs]; exact info_stmt)
end Go.Proofs.YtbpdhegfdmppgaaGreatDoor

/- CONTRACT of readParam. -/
namespace Go.Proofs.YtbpdhegfdmppgaaGreatDoor
open Go.ChangeShapes Go.WideShapes Go.ChangeAt Go.RowKit

/-- Parameters. -/
def kPa : Kind Pa where
  n := 3
  C := fun _ _ cs x => cs = [.string (bs x.name), .bool x.sec, .int .i64 x.len]
  len := fun h => by rw [h]; rfl
  one := fun h => by rw [h]; simp [Value.oneCell']
  mono := fun h _ => h
def PaV (w : World) (S : Nat → Prop) (v : Value) (x : Pa) : Prop := ∃ cs : List Value, v = .agg cs.toArray ∧ kPa.C w S cs x
theorem info_param : (Tryz.prog.info? 79).map (·.size) = some 3 := by kernel_rfl
theorem load_param {W : World} {b : Nat} {cs : Array Value} {t : TypeId} {f : Nat × Nat} (h : W.heap[b]? = some (.cells cs t f)) (hs : cs.size = 3) : (loadVar 79 ⟨b, 0, none⟩).run Tryz.prog W = .ok (.agg cs) W :=
  run_loadVar_row W b t 79 cs f _ h Tryz.underlying79 rfl (by rw [hs]; exact info_param)
theorem rdParam_none {p : Int} {l : List Nd} {a : List UInt8} {b : Bool} {l1 : List Nd} (h1 : rdBy rdNameOf p l = .ok (a, l1)) (h2 : rdBy rdLabelOf p l1 = .ok (b, [])) : rdParam p l = .ok ⟨a, b, 0⟩ := by
  simp only [rdParam, h1, h2, Res.bind_ok]
theorem rdParam_some {p : Int} {l : List Nd} {a : List UInt8} {b : Bool} {l1 : List Nd} {n : Nd} {r : List Nd} (h1 : rdBy rdNameOf p l = .ok (a, l1)) (h2 : rdBy rdLabelOf p l1 = .ok (b, n :: r)) :
    rdParam p l = (rdBy (rdWithinOf 1 16) p (n :: r)).bind fun c => ((rdEnd c.2).bind fun y => .ok (y, ([] : List Nd))).bind fun _ => .ok ⟨a, b, c.1⟩ := by
  simp only [rdParam, h1, h2, Res.bind_ok]
  show _ = ((rdWithinOf 1 16 n).bind fun y => Res.ok (y, r)).bind _
  simp only [Res.bind_assoc, Res.bind_ok]

set_option maxHeartbeats 3200000 in
theorem param_rs {B : Nat} {w : World} {r : Nat} {l : List Nd} {p : Int} (h : Rs B w r l p) :
    Calls Tryz.prog 114 #[.pointer (some ⟨r, 0, none⟩)] w (Takes PaV B w r p ((rdParam p l).bind fun x => .ok (x, []))) := by
  have hlt := h.lt
  have hB := h.own
  have hf2 := Rg.start h 79 #[.string ⟨#[]⟩, .bool false, .int .i64 0] #[.string ⟨#[]⟩, .bool false, .int .i64 0]
  cases hr3 : rdBy rdNameOf p l with
  | bad x y =>
    have HR3 : Hid (rdBy rdNameOf p l = .bad x y) := hr3
    have HP : Hid (rdParam p l = .bad x y) := by show _ = _; simp only [rdParam, hr3, Res.bind_bad]
    clear hr3
    go_enter Tryz.func114, Tryz.ntmps114
    go_wp2_with (first | (go_at_call 58; refine (name_tk hf2.rs).mono ?_; rintro e w3 hG3; obtain rfl := hG3.bad _ _ HR3.out))
    exact ⟨rfl, .ofBad (by rw [HP.out]; rfl) (hf2.kept.trans hG3.kept)⟩
  | ok y3 =>
    obtain ⟨t3, l3⟩ := y3
    have HR3 : Hid (rdBy rdNameOf p l = .ok (t3, l3)) := hr3
    cases hr4 : rdBy rdLabelOf p l3 with
    | bad x y =>
      have HR4 : Hid (rdBy rdLabelOf p l3 = .bad x y) := hr4
      have HP : Hid (rdParam p l = .bad x y) := by show _ = _; simp only [rdParam, hr3, hr4, Res.bind_ok, Res.bind_bad]
      clear hr3 hr4
      go_enter Tryz.func114, Tryz.ntmps114
      go_wp2_with (first | (go_at_call 58; refine (name_tk hf2.rs).mono ?_; rintro e w3 hG3; obtain ⟨hRs3, v3, rfl, rfl⟩ := hG3.ok _ _ HR3.out; have hf3 := hf2.step hG3.kept hRs3; have c3 := hf3.cell; have z3 := hf3.free; have s3 := hf3.lt; have rc3 := hf3.rcell; have rz3 := hf3.rfree; have rs3 := hf3.rlt; have hg3 := hf3.set 0 (.string (bs t3)) (xc' := #[.string (bs t3), .bool false, .int .i64 0]) rfl) | (go_at_call 97; refine (label_tk hg3.rs).mono ?_; rintro e w4 hG4; obtain rfl := hG4.bad _ _ HR4.out))
      exact ⟨rfl, .ofBad (by rw [HP.out]; rfl) (hg3.kept.trans hG4.kept)⟩
    | ok y4 =>
      obtain ⟨t4, l4⟩ := y4
      have HR4 : Hid (rdBy rdLabelOf p l3 = .ok (t4, l4)) := hr4
      cases l4 with
      | nil =>
        have HP : Hid (rdParam p l = .ok ⟨t3, t4, 0⟩) := rdParam_none hr3 hr4
        clear hr3 hr4
        go_enter Tryz.func114, Tryz.ntmps114
        go_wp2_with (first | (go_at_call 58; refine (name_tk hf2.rs).mono ?_; rintro e w3 hG3; obtain ⟨hRs3, v3, rfl, rfl⟩ := hG3.ok _ _ HR3.out; have hf3 := hf2.step hG3.kept hRs3; have c3 := hf3.cell; have z3 := hf3.free; have s3 := hf3.lt; have rc3 := hf3.rcell; have rz3 := hf3.rfree; have rs3 := hf3.rlt; have hg3 := hf3.set 0 (.string (bs t3)) (xc' := #[.string (bs t3), .bool false, .int .i64 0]) rfl) | (go_at_call 97; refine (label_tk hg3.rs).mono ?_; rintro e w4 hG4; obtain ⟨hRs4, v4, rfl, rfl⟩ := hG4.ok _ _ HR4.out; have hf4 := hg3.step hG4.kept hRs4; clear c3 z3 rc3 rz3; have c4 := hf4.cell; have z4 := hf4.free; have s4 := hf4.lt; have rc4 := hf4.rcell; have rz4 := hf4.rfree; have rs4 := hf4.rlt; have hg4 := hf4.set 1 (.bool t4) (xc' := #[.string (bs t3), .bool t4, .int .i64 0]) rfl; have fg4 := (Far.refl (w.heap.size + 1) w4).set 1 (.bool t4); have hmore := more_rs hg4.rs) | (go_at_call 62; refine hmore.mono ?_; rintro e w9 ⟨rfl, hq⟩; have hq' := hq.symm; subst hq') | (go_at_call 59; refine (end_tk hg4.rs).mono ?_; rintro e w5 hG5; obtain ⟨hRs5, v5, rfl, rfl⟩ := hG5.ok _ _ rfl; have hf5 := hg4.step hG5.kept hRs5) | (refine wpList_load_row rfl 79 (.tmp 3) rfl (w.heap.size + 1) rfl 79 #[.string (bs t3), .bool t4, .int .i64 0] (0, 0) _ hf5.x Tryz.underlying79 rfl info_param ?_) | (refine wpList_store_row rfl 79 (.tmp 2) _ rfl w.heap.size #[.string (bs t3), .bool t4, .int .i64 0] rfl rfl 79 #[.string ⟨#[]⟩, .bool false, .int .i64 0] hf5.res info_param rfl (by simp [Value.oneCell']) ?_))
        have hEn := setRow_at (cs := #[.string (bs t3), .bool t4, .int .i64 0]) hf5.res
        have hKw := setRow_kept (b := w.heap.size) #[.string (bs t3), .bool t4, .int .i64 0] hf5.kept (by omega)
        have hKb := setRow_in w5 w.heap.size #[.string (bs t3), .bool t4, .int .i64 0]
        generalize World.setRow _ _ _ = W at hEn hKw hKb ⊢
        refine bodyPost_ret_by (results_row Tryz.results114 rfl (load_param hEn rfl)) rfl ?_
        exact .ofOk (x := Pa.mk t3 t4 0) (l := []) (by rw [HP.out]; rfl) hKw (hf5.rs.keep hKb (fun k e => by omega) (by omega)) ⟨_, rfl, rfl⟩
      | cons nd l4 =>
        have HP : Hid _ := rdParam_some hr3 hr4
        clear hr3 hr4
        cases hr5 : rdBy (rdWithinOf 1 16) p (nd :: l4) with
        | bad x y =>
          have HR5 : Hid (rdBy (rdWithinOf 1 16) p (nd :: l4) = .bad x y) := hr5
          clear hr5
          go_enter Tryz.func114, Tryz.ntmps114
          go_wp2_with (first | (go_at_call 58; refine (name_tk hf2.rs).mono ?_; rintro e w3 hG3; obtain ⟨hRs3, v3, rfl, rfl⟩ := hG3.ok _ _ HR3.out; have hf3 := hf2.step hG3.kept hRs3; have c3 := hf3.cell; have z3 := hf3.free; have s3 := hf3.lt; have rc3 := hf3.rcell; have rz3 := hf3.rfree; have rs3 := hf3.rlt; have hg3 := hf3.set 0 (.string (bs t3)) (xc' := #[.string (bs t3), .bool false, .int .i64 0]) rfl) | (go_at_call 97; refine (label_tk hg3.rs).mono ?_; rintro e w4 hG4; obtain ⟨hRs4, v4, rfl, rfl⟩ := hG4.ok _ _ HR4.out; have hf4 := hg3.step hG4.kept hRs4; clear c3 z3 rc3 rz3; have c4 := hf4.cell; have z4 := hf4.free; have s4 := hf4.lt; have rc4 := hf4.rcell; have rz4 := hf4.rfree; have rs4 := hf4.rlt; have hg4 := hf4.set 1 (.bool t4) (xc' := #[.string (bs t3), .bool t4, .int .i64 0]) rfl; have fg4 := (Far.refl (w.heap.size + 1) w4).set 1 (.bool t4); have hmore := more_rs hg4.rs) | (go_at_call 62; refine hmore.mono ?_; rintro e w9 ⟨rfl, hq⟩; have hq' := hq.symm; subst hq') | (go_at_call 116; refine (within_tk 1 16 hg4.rs).mono ?_; rintro e w5 hG5; obtain rfl := hG5.bad _ _ HR5.out))
          exact ⟨rfl, .ofBad (by simp only [HP.out, HR5.out, Res.bind_bad]) (hg4.kept.trans hG5.kept)⟩
        | ok y5 =>
          obtain ⟨t5, l5⟩ := y5
          have HR5 : Hid (rdBy (rdWithinOf 1 16) p (nd :: l4) = .ok (t5, l5)) := hr5
          clear hr5
          cases hr6 : ((rdEnd l5).bind fun y => Res.ok (y, ([] : List Nd))) with
          | bad x y =>
            have HR6 : Hid (((rdEnd l5).bind fun y => Res.ok (y, ([] : List Nd))) = .bad x y) := hr6
            clear hr6
            go_enter Tryz.func114, Tryz.ntmps114
            go_wp2_with (first | (go_at_call 58; refine (name_tk hf2.rs).mono ?_; rintro e w3 hG3; obtain ⟨hRs3, v3, rfl, rfl⟩ := hG3.ok _ _ HR3.out; have hf3 := hf2.step hG3.kept hRs3; have c3 := hf3.cell; have z3 := hf3.free; have s3 := hf3.lt; have rc3 := hf3.rcell; have rz3 := hf3.rfree; have rs3 := hf3.rlt; have hg3 := hf3.set 0 (.string (bs t3)) (xc' := #[.string (bs t3), .bool false, .int .i64 0]) rfl) | (go_at_call 97; refine (label_tk hg3.rs).mono ?_; rintro e w4 hG4; obtain ⟨hRs4, v4, rfl, rfl⟩ := hG4.ok _ _ HR4.out; have hf4 := hg3.step hG4.kept hRs4; clear c3 z3 rc3 rz3; have c4 := hf4.cell; have z4 := hf4.free; have s4 := hf4.lt; have rc4 := hf4.rcell; have rz4 := hf4.rfree; have rs4 := hf4.rlt; have hg4 := hf4.set 1 (.bool t4) (xc' := #[.string (bs t3), .bool t4, .int .i64 0]) rfl; have fg4 := (Far.refl (w.heap.size + 1) w4).set 1 (.bool t4); have hmore := more_rs hg4.rs) | (go_at_call 62; refine hmore.mono ?_; rintro e w9 ⟨rfl, hq⟩; have hq' := hq.symm; subst hq') | (go_at_call 116; refine (within_tk 1 16 hg4.rs).mono ?_; rintro e w5 hG5; obtain ⟨hRs5, v5, rfl, rfl⟩ := hG5.ok _ _ HR5.out; have hf5 := hg4.step hG5.kept hRs5; clear c4 z4 rc4 rz4; have c5 := hf5.cell; have z5 := hf5.free; have s5 := hf5.lt; have rc5 := hf5.rcell; have rz5 := hf5.rfree; have rs5 := hf5.rlt; have far5 : Far _ w4 w5 := fg4.kept hG5.kept (by omega); have hg5 := (hf5.set 2 (.int .i64 (t5 : Int)) (xc' := #[.string (bs t3), .bool t4, .int .i64 (t5 : Int)]) rfl); have fg5 := ((Far.refl (w.heap.size + 1) w5).set 2 (.int .i64 (t5 : Int)))) | (go_at_call 59; refine (end_tk hg5.rs).mono ?_; rintro e w6 hG6; obtain rfl := hG6.bad _ _ HR6.out))
            exact ⟨rfl, .ofBad (by simp only [HP.out, HR5.out, HR6.out, Res.bind_ok, Res.bind_bad]) (hg5.kept.trans hG6.kept)⟩
          | ok y6 =>
            obtain ⟨u6, l6⟩ := y6
            have HR6 : Hid (((rdEnd l5).bind fun y => Res.ok (y, ([] : List Nd))) = .ok (u6, l6)) := hr6
            obtain rfl := end_nil hr6
            clear hr6
            go_enter Tryz.func114, Tryz.ntmps114
            go_wp2_with (first | (go_at_call 58; refine (name_tk hf2.rs).mono ?_; rintro e w3 hG3; obtain ⟨hRs3, v3, rfl, rfl⟩ := hG3.ok _ _ HR3.out; have hf3 := hf2.step hG3.kept hRs3; have c3 := hf3.cell; have z3 := hf3.free; have s3 := hf3.lt; have rc3 := hf3.rcell; have rz3 := hf3.rfree; have rs3 := hf3.rlt; have hg3 := hf3.set 0 (.string (bs t3)) (xc' := #[.string (bs t3), .bool false, .int .i64 0]) rfl) | (go_at_call 97; refine (label_tk hg3.rs).mono ?_; rintro e w4 hG4; obtain ⟨hRs4, v4, rfl, rfl⟩ := hG4.ok _ _ HR4.out; have hf4 := hg3.step hG4.kept hRs4; clear c3 z3 rc3 rz3; have c4 := hf4.cell; have z4 := hf4.free; have s4 := hf4.lt; have rc4 := hf4.rcell; have rz4 := hf4.rfree; have rs4 := hf4.rlt; have hg4 := hf4.set 1 (.bool t4) (xc' := #[.string (bs t3), .bool t4, .int .i64 0]) rfl; have fg4 := (Far.refl (w.heap.size + 1) w4).set 1 (.bool t4); have hmore := more_rs hg4.rs) | (go_at_call 62; refine hmore.mono ?_; rintro e w9 ⟨rfl, hq⟩; have hq' := hq.symm; subst hq') | (go_at_call 116; refine (within_tk 1 16 hg4.rs).mono ?_; rintro e w5 hG5; obtain ⟨hRs5, v5, rfl, rfl⟩ := hG5.ok _ _ HR5.out; have hf5 := hg4.step hG5.kept hRs5; clear c4 z4 rc4 rz4; have c5 := hf5.cell; have z5 := hf5.free; have s5 := hf5.lt; have rc5 := hf5.rcell; have rz5 := hf5.rfree; have rs5 := hf5.rlt; have far5 : Far _ w4 w5 := fg4.kept hG5.kept (by omega); have hg5 := (hf5.set 2 (.int .i64 (t5 : Int)) (xc' := #[.string (bs t3), .bool t4, .int .i64 (t5 : Int)]) rfl); have fg5 := ((Far.refl (w.heap.size + 1) w5).set 2 (.int .i64 (t5 : Int)))) | (go_at_call 59; refine (end_tk hg5.rs).mono ?_; rintro e w6 hG6; obtain ⟨hRs6, v6, rfl, rfl⟩ := hG6.ok _ _ HR6.out; have hf6 := hg5.step hG6.kept hRs6; clear c5 z5 rc5 rz5; have far6 : Far _ w5 w6 := fg5.kept hG6.kept (by omega)) | (refine wpList_load_row rfl 79 (.tmp 3) rfl (w.heap.size + 1) rfl 79 #[.string (bs t3), .bool t4, .int .i64 (t5 : Int)] (0, 0) _ hf6.x Tryz.underlying79 rfl info_param ?_) | (refine wpList_store_row rfl 79 (.tmp 2) _ rfl w.heap.size #[.string (bs t3), .bool t4, .int .i64 (t5 : Int)] rfl rfl 79 #[.string ⟨#[]⟩, .bool false, .int .i64 0] hf6.res info_param rfl (by simp [Value.oneCell']) ?_))
            have hEn := setRow_at (cs := #[.string (bs t3), .bool t4, .int .i64 (t5 : Int)]) hf6.res
            have hKw := setRow_kept (b := w.heap.size) #[.string (bs t3), .bool t4, .int .i64 (t5 : Int)] hf6.kept (by omega)
            have hKb := setRow_in w6 w.heap.size #[.string (bs t3), .bool t4, .int .i64 (t5 : Int)]
            generalize World.setRow _ _ _ = W at hEn hKw hKb ⊢
            refine bodyPost_ret_by (results_row Tryz.results114 rfl (load_param hEn rfl)) rfl ?_
            exact .ofOk (x := Pa.mk t3 t4 t5) (l := []) (by simp only [HP.out, HR5.out, HR6.out, Res.bind_ok]) hKw (hf6.rs.keep hKb (fun k e => by omega) (by omega)) ⟨_, rfl, rfl⟩
end Go.Proofs.YtbpdhegfdmppgaaGreatDoor

/- CONTRACT of readParams. -/
namespace Go.Proofs.YtbpdhegfdmppgaaGreatDoor
open Go.ChangeShapes Go.WideShapes Go.ChangeAt Go.RowKit

theorem params_info : (Tryz.prog.info? 79).map (fun i => (i.zero, i.size, i.bytes)) = some (some (.agg #[.string ⟨#[]⟩, .bool false, .int .i64 0]), 3, 32) := by kernel_rfl
theorem rdParams_nil (k : Nat) : rdParams k [] = .ok [] := by rw [rdParams]
theorem rdParams_cons (k : Nat) (n : Nd) (r : List Nd) : rdParams k (n :: r) = if 6 ≤ k then .bad 5 n.pos else (rdEnter n).bind fun x => (rdParam x.2 x.1).bind fun a => (rdParams (k + 1) r).bind fun y => .ok (a :: y) := by rw [rdParams]

set_option maxHeartbeats 3200000 in
theorem params_rs {B : Nat} {w : World} {r : Nat} {l : List Nd} {p : Int} (h : Rs B w r l p) :
    Calls Tryz.prog 96 #[.pointer (some ⟨r, 0, none⟩)] w (Takes kPa.rd B w r p ((rdParams 0 l).bind fun x => .ok (x, []))) := by
  have hlt := h.lt
  have hB := h.own
  obtain ⟨i0, hi0, hz0, hz1, hz2⟩ := info_parts params_info
  go_enter Tryz.func96, Tryz.ntmps96
  go_wp2_with fail
  go_loopw [3] (fun v wr => ∃ (acc : List Pa) (l' : List Nd), acc.length ≤ 6 ∧ kPa.own 79 wr (Own w.heap.size v) w.heap.size v acc ∧ Kept (fun k => k = r) w wr ∧ Rs B wr r l' p ∧
    rdParams 0 l = (rdParams acc.length l').bind fun x => .ok (acc ++ x)) (fun _ wr => leftAt wr r)
  case atStart => exact ⟨[], l, Nat.zero_le _, kPa.own_none _ _ _ _, Kept.refl _ _, h, by rw [List.length_nil]; cases rdParams 0 l <;> rfl⟩
  case round =>
    obtain ⟨acc, l', hk, hown, hKr, hRs, hsp⟩ := hrel
    have HS : Hid (rdParams 0 l = (rdParams acc.length l').bind fun x => .ok (acc ++ x)) := hsp
    clear hsp
    obtain ⟨vx, vc, rfl⟩ := kPa.own_form hown
    have HO : Hid (kPa.own 79 wr (Own w.heap.size (.slice vx acc.length vc)) w.heap.size (.slice vx acc.length vc) acc) := hown
    clear hown
    have hwr := hKr.size
    have HV : Hid (∀ g, (Value.slice vx acc.length vc).ownBlock = some g → w.heap.size ≤ g ∧ g < wr.heap.size) := kPa.own_lt HO.out
    have hmore := more_rs hRs
    cases l' with
    | nil =>
      have hrd := kPa.own_rd HO.out (T := fun b => w.heap.size ≤ b) (fun b hb => hb.1) (fun g hg => (HV.out g hg).1)
      go_wp2_with (go_at_call 62; refine hmore.mono ?_; rintro e w9 ⟨rfl, hq⟩; have hq' := hq.symm; subst hq')
      go_ret
      refine .ofOk (x := acc) (l := []) ?_ hKr hRs hrd
      rw [HS.out, rdParams_nil]
      simp
    | cons nd l2 =>
      obtain ⟨il, wd, ks, q⟩ := nd
      have hwok := hRs.wok.1
      have hdec : decide (0 < (Nd.mk il wd ks q :: l2).length) = true := by simp
      rw [hdec] at hmore
      clear hdec
      by_cases h6 : 6 ≤ acc.length
      · have HS2 : Hid (rdParams 0 l = .bad 5 q) := by show _ = _; rw [HS.out, rdParams_cons, if_pos h6]; rfl
        clear HS
        have hc := nextOf_long il wd ks q acc.length 6 h6 hRs
        go_wp2_with (first | (go_at_call 62; refine hmore.mono ?_; rintro e w9 ⟨rfl, hq⟩; have hq' := hq.symm; subst hq') | (go_at_call 64; refine hc.mono ?_; rintro e w1 ⟨rfl, hk1⟩))
        exact ⟨rfl, .ofBad (by rw [HS2.out]; rfl) (hKr.trans hk1)⟩
      · have HS2 : Hid (rdParams 0 l = ((rdEnter (.mk il wd ks q)).bind fun x => (rdParam x.2 x.1).bind fun a => (rdParams (acc.length + 1) l2).bind fun y => .ok (a :: y)).bind fun x => .ok (acc ++ x)) := by show _ = _; rw [HS.out, rdParams_cons, if_neg h6]
        clear HS
        have hc := nextOf_ok il wd ks q acc.length 6 (by omega) hRs
        by_cases hent : (!il || !wd.isEmpty) = true
        · have HB : Hid (rdEnter (.mk il wd ks q) = .bad 6 q) := by show _ = _; rw [rdEnter, if_pos hent]
          go_wp2_with (first | (go_at_call 62; refine hmore.mono ?_; rintro e w9 ⟨rfl, hq⟩; have hq' := hq.symm; subst hq') | (go_at_call 64; refine hc.mono ?_; rintro e w1 ⟨a, c, rfl, hrow, hcap, hR1, hK1⟩) | (go_at_call 55; refine (enter_bad _ _ _ _ _ _ hent).mono ?_; rintro e wb ⟨rfl, hbb⟩))
          exact ⟨rfl, .ofBad (by rw [HS2.out, HB.out]; rfl) ((hKr.trans hK1).on hbb)⟩
        · obtain ⟨hil, hwd⟩ : il = true ∧ wd = [] := by simpa using hent
          subst hil hwd
          clear hent
          have HB : Hid (rdEnter (.mk true [] ks q) = .ok (ks, q)) := rfl
          cases hr : rdParam q ks with
          | bad x y =>
            have HR : Hid ((rdParam q ks).bind (fun x => Res.ok (x, ([] : List Nd))) = .bad x y) := by show _ = _; rw [hr]; rfl
            have HR0 : Hid (rdParam q ks = .bad x y) := hr
            clear hr
            go_wp2_with (first | (go_at_call 62; refine hmore.mono ?_; rintro e w9 ⟨rfl, hq⟩; have hq' := hq.symm; subst hq') | (go_at_call 64; refine hc.mono ?_; rintro e w1 ⟨a, c, rfl, hrow, hcap, hR1, hK1⟩) | (go_at_call 55; refine (enter_ok (B := B) ks q a c hR1.glob.le hR1.glob hwok.2 hrow hcap).mono ?_; rintro e w2 ⟨r2, rfl, hr2, hR2, hb2⟩) | (go_at_call 114; refine (param_rs hR2).mono ?_; rintro e w4 hG; obtain rfl := hG.bad _ _ HR.out))
            have hw1 := Nat.le_trans (Nat.le_trans hKr.size hK1.size) hr2
            exact ⟨rfl, .ofBad (by rw [HS2.out, HB.out, Res.bind_ok, HR0.out]; rfl) (((hKr.trans hK1).on hb2).past hG.kept fun i e => by rw [e]; exact hw1)⟩
          | ok x =>
            have HR : Hid ((rdParam q ks).bind (fun x => Res.ok (x, ([] : List Nd))) = .ok (x, [])) := by show _ = _; rw [hr]; rfl
            have HR0 : Hid (rdParam q ks = .ok x) := hr
            clear hr
            go_wp2_with (first | (go_at_call 62; refine hmore.mono ?_; rintro e w9 ⟨rfl, hq⟩; have hq' := hq.symm; subst hq') | (go_at_call 64; refine hc.mono ?_; rintro e w1 ⟨a, c, rfl, hrow, hcap, hR1, hK1⟩) | (go_at_call 55; refine (enter_ok (B := B) ks q a c hR1.glob.le hR1.glob hwok.2 hrow hcap).mono ?_; rintro e w2 ⟨r2, rfl, hr2, hR2, hb2⟩) | (go_at_call 114; refine (param_rs hR2).mono ?_; rintro e w4 hG; obtain ⟨hR4, v, rfl, cs, rfl, hC0⟩ := hG.ok _ _ HR.out; have hC : cs = [.string (bs x.name), .bool x.sec, .int .i64 x.len] := hC0; subst hC; have hkp : Kept (fun k => k = r) wr w4 := (hK1.on hb2).past hG.kept (fun i e => by rw [e]; exact Nat.le_trans hK1.size hr2); obtain ⟨xs, ho, hlay⟩ := kPa.own_keep HO.out hkp (fun k e => by omega)) | (at_builtin; (refine wpList_append_lies _ rfl _ _ 40 rfl w.heap.size 79 i0 _ 3 32 Tryz.underlying40 hi0 hz0 hz1 hz2 rfl (by omega) (.slice vx acc.length vc) acc.length xs rfl (ho.alloc _) ⟨w4.heap.size, 0, none⟩ 1 1 [.string (bs x.name), .bool x.sec, .int .i64 x.len] rfl rfl (World.news_of_block (cs := #[.string (bs x.name), .bool x.sec, .int .i64 x.len]) (t := 79) (fr := (0, 0)) (heap_alloc_new w4 _)) (by simp [Value.oneCell']) (by omega) (by unfold maxLen; omega) (by omega) (by have := hkp.size; simp; omega) (w4.heap.size + 1) (by simp) ?_; intro g cap w5 hown5 hgrow hat hltg)))
            have hv := HV.out
            have hm3 : ∀ i, (Value.slice vx acc.length vc).ownBlock = some i → w.heap.size ≤ i := fun i e => (hv i e).1
            obtain ⟨hnew, hk5⟩ := kPa.append_all (x := x) hlay (cs := [.string (bs x.name), .bool x.sec, .int .i64 x.len]) rfl hown5 hgrow hat
            have hr5 : Rs B w5 r l2 p := ((hR1.below hb2).keep hG.kept (fun k e => by have := hR2.own; omega) (fun e => by have := hK1.size; omega)).keep hk5 (fun k e => by have := hm3 k e; omega) (fun e => by have := hm3 r e; omega)
            refine ⟨⟨acc ++ [x], l2, by simp; omega, by simpa using hnew, (hKr.trans hkp).past hk5 hm3, hr5, ?_⟩, ?_⟩
            · rw [HS2.out, HB.out, Res.bind_ok, HR0.out, List.length_append, List.length_singleton]
              simp only [Res.bind_ok]
              cases rdParams (acc.length + 1) l2 <;> simp
            · rw [hr5.left, hRs.left]; simp
end Go.Proofs.YtbpdhegfdmppgaaGreatDoor

/- CONTRACTS of begins and readImports. -/
namespace Go.Proofs.YtbpdhegfdmppgaaGreatDoor
open Go.ChangeShapes Go.WideShapes Go.ChangeAt Go.RowKit

set_option maxHeartbeats 3200000 in
theorem begins_rs {B : Nat} {w : World} {r : Nat} {l : List Nd} {p : Int} (v : List UInt8) (h : Rs B w r l p) :
    Calls Tryz.prog 60 #[.pointer (some ⟨r, 0, none⟩), .string (bs v)] w fun e w' => e = .returned (.bool (begins v l)) ∧ Below w.heap.size w w' := by
  have hlt := h.lt
  have hmore := more_rs h
  obtain ⟨a, c, hh, hrow, hc⟩ := h.row
  obtain ⟨c0, c1, z0, _⟩ := cells2 hh
  cases hrow with
  | nil =>
    go_enter Tryz.func60, Tryz.ntmps60
    go_wp2_with (go_at_call 62; refine hmore.mono ?_; rintro e w9 ⟨rfl, hq⟩; have hq' := hq.symm; subst hq')
    go_ret
    exact ⟨rfl, Below.refl _ _⟩
  | cons b o il wd ks q l a' c' hc' hS h0 h1 h2 h3 hk hr =>
    have hdec : decide (0 < (Nd.mk il wd ks q :: l).length) = true := by simp
    rw [hdec] at hmore
    simp only [List.length_cons] at c0
    have hn : (0 : Int) < (l.length : Int) + 1 := by omega
    clear hdec
    cases il with
    | false =>
      go_enter Tryz.func60, Tryz.ntmps60
      go_wp2_with (go_at_call 62; refine hmore.mono ?_; rintro e w9 ⟨rfl, hq⟩; have hq' := hq.symm; subst hq')
      go_ret
      exact ⟨rfl, Below.refl _ _⟩
    | true =>
      cases hk with
      | nil =>
        simp only [List.length_nil] at h2
        go_enter Tryz.func60, Tryz.ntmps60
        go_wp2_with (go_at_call 62; refine hmore.mono ?_; rintro e w9 ⟨rfl, hq⟩; have hq' := hq.symm; subst hq')
        go_ret
        exact ⟨rfl, Below.refl _ _⟩
      | cons b2 o2 il2 wd2 ks2 q2 l2 a2 c2 hc2 hS2 g0 g1 g2 g3 hk2 hr2 =>
        simp only [List.length_cons] at h2
        have hn2 : (0 : Int) < (l2.length : Int) + 1 := by omega
        have hn3 : ¬ (l2.length : Int) + 1 = 0 := by omega
        cases il2 with
        | true =>
          go_enter Tryz.func60, Tryz.ntmps60
          go_wp2_with (go_at_call 62; refine hmore.mono ?_; rintro e w9 ⟨rfl, hq⟩; have hq' := hq.symm; subst hq')
          go_ret
          exact ⟨rfl, (Below.refl _ _).alloc (Nat.le_refl _) _⟩
        | false =>
          have he : ((bs wd2).toList == (bs v).toList) = (wd2 == v) := by rw [ByteArray.toList_eq, ByteArray.toList_eq, bs_list, bs_list]
          go_enter Tryz.func60, Tryz.ntmps60
          go_wp2_with (go_at_call 62; refine hmore.mono ?_; rintro e w9 ⟨rfl, hq⟩; have hq' := hq.symm; subst hq')
          go_ret
          exact ⟨ret_bool (by first | rfl | exact he), (Below.refl _ _).alloc (Nat.le_refl _) _⟩

theorem skip_tk {B : Nat} {w : World} {r : Nat} {l : List Nd} {p : Int} (v : List UInt8) (h : Rs B w r l p) : Calls Tryz.prog 57 #[.pointer (some ⟨r, 0, none⟩), .string (bs v)] w (Takes (fun _ _ u (_ : Unit) => u = .tuple #[]) B w r p (rdBy (rdSkipOf v) p l)) :=
  (skip_rs v h).mono fun _ _ h => h.takes
end Go.Proofs.YtbpdhegfdmppgaaGreatDoor

/- CONTRACT of readImports. -/
namespace Go.Proofs.YtbpdhegfdmppgaaGreatDoor
open Go.ChangeShapes Go.WideShapes Go.ChangeAt Go.RowKit

theorem imports_info : (Tryz.prog.info? 9).map (fun i => (i.zero, i.size, i.bytes)) = some (some (.string ⟨#[]⟩), 1, 16) := by kernel_rfl
theorem rdNames_nil (k : Nat) : rdNames k [] = .ok [] := by rw [rdNames]
theorem rdNames_cons (k : Nat) (n : Nd) (r : List Nd) : rdNames k (n :: r) = if 7 ≤ k then .bad 5 n.pos else (rdNameOf n).bind fun f => (rdNames (k + 1) r).bind fun x => .ok (f :: x) := by rw [rdNames]
theorem own_first {w : World} {base : Nat} (s : List UInt8) (hb : base ≤ w.heap.size) : kStr.own 9 (w.alloc (.cells #[.string (bs s)] 9)) (Own base (.slice (some ⟨w.heap.size, 0, none⟩) 1 1)) base (.slice (some ⟨w.heap.size, 0, none⟩) 1 1) [s] :=
  ⟨[.string (bs s)], ⟨rfl, .inr ⟨w.heap.size, 1, #[.string (bs s)], rfl, hb, heap_alloc_new w _, Nat.le_refl _, by unfold maxLen; omega, rfl, rfl⟩⟩, [.string (bs s)], [], rfl, rfl, rfl⟩

set_option maxHeartbeats 3200000 in
theorem imports_rs {B : Nat} {w : World} {r : Nat} {l : List Nd} {p : Int} (h : Rs B w r l p) :
    Calls Tryz.prog 61 #[.pointer (some ⟨r, 0, none⟩)] w (Takes kStr.rd B w r p ((rdImports p l).bind fun x => .ok (x, []))) := by
  have hlt := h.lt
  have hB := h.own
  obtain ⟨i0, hi0, hz0, hz1, hz2⟩ := info_parts imports_info
  cases hr1 : rdBy (rdSkipOf [105, 109, 112, 111, 114, 116]) p l with
  | bad x y =>
    have HR1 : Hid (rdBy (rdSkipOf [105, 109, 112, 111, 114, 116]) p l = .bad x y) := hr1
    have HP : Hid (rdImports p l = .bad x y) := by show _ = _; simp only [rdImports, hr1, Res.bind_bad]
    clear hr1
    go_enter Tryz.func61, Tryz.ntmps61
    go_wp2_with (go_at_call 57; refine (skip_tk [105, 109, 112, 111, 114, 116] h).mono ?_; rintro e w1 hG1; obtain rfl := hG1.bad _ _ HR1.out)
    exact ⟨rfl, .ofBad (by rw [HP.out]; rfl) hG1.kept⟩
  | ok y1 =>
    obtain ⟨u1, l1⟩ := y1
    have HR1 : Hid (rdBy (rdSkipOf [105, 109, 112, 111, 114, 116]) p l = .ok (u1, l1)) := hr1
    cases hr2 : rdBy rdNameOf p l1 with
    | bad x y =>
      have HR2 : Hid (rdBy rdNameOf p l1 = .bad x y) := hr2
      have HP : Hid (rdImports p l = .bad x y) := by show _ = _; simp only [rdImports, hr1, hr2, Res.bind_ok, Res.bind_bad]
      clear hr1 hr2
      go_enter Tryz.func61, Tryz.ntmps61
      go_wp2_with (first | (go_at_call 57; refine (skip_tk [105, 109, 112, 111, 114, 116] h).mono ?_; rintro e w1 hG1; obtain ⟨hRs1, v1, rfl, rfl⟩ := hG1.ok _ _ HR1.out) | (go_at_call 58; refine (name_tk hRs1).mono ?_; rintro e w2 hG2; obtain rfl := hG2.bad _ _ HR2.out))
      exact ⟨rfl, .ofBad (by rw [HP.out]; rfl) (hG1.kept.trans hG2.kept)⟩
    | ok y2 =>
      obtain ⟨t2, l2⟩ := y2
      have HR2 : Hid (rdBy rdNameOf p l1 = .ok (t2, l2)) := hr2
      have HP : Hid (rdImports p l = (rdNames 1 l2).bind fun x => .ok (t2 :: x)) := by show _ = _; simp only [rdImports, hr1, hr2, Res.bind_ok]
      clear hr1 hr2
      go_enter Tryz.func61, Tryz.ntmps61
      go_wp2_with (first | (go_at_call 57; refine (skip_tk [105, 109, 112, 111, 114, 116] h).mono ?_; rintro e w1 hG1; obtain ⟨hRs1, v1, rfl, rfl⟩ := hG1.ok _ _ HR1.out) | (go_at_call 58; refine (name_tk hRs1).mono ?_; rintro e w2 hG2; obtain ⟨hRs2, v2, rfl, rfl⟩ := hG2.ok _ _ HR2.out))
      have hk2 := hG1.kept.trans hG2.kept
      have hw2 := hk2.size
      have h3 := own_first t2 hw2
      have hR3 : Rs B (w2.alloc (.cells #[.string (bs t2)] 9)) r l2 p := hRs2.below (one_below w2 _)
      have hK3 : Kept (fun k => k = r) w (w2.alloc (.cells #[.string (bs t2)] 9)) := hk2.alloc_r _
      go_loopw [3] (fun v wr => ∃ (acc : List (List UInt8)) (l' : List Nd), acc.length ≤ 7 ∧ kStr.own 9 wr (Own w.heap.size v) w.heap.size v acc ∧ Kept (fun k => k = r) w wr ∧ Rs B wr r l' p ∧
        rdImports p l = (rdNames acc.length l').bind fun x => .ok (acc ++ x)) (fun _ wr => leftAt wr r)
      case atStart => exact ⟨[t2], l2, by simp, h3, hK3, hR3, HP.out⟩
      case round =>
        obtain ⟨acc, l', hk, hown, hKr, hRs, hsp⟩ := hrel
        have HS : Hid (rdImports p l = (rdNames acc.length l').bind fun x => .ok (acc ++ x)) := hsp
        clear hsp hR3 hK3 h3 HP
        obtain ⟨vx, vc, rfl⟩ := kStr.own_form hown
        have HO : Hid (kStr.own 9 wr (Own w.heap.size (.slice vx acc.length vc)) w.heap.size (.slice vx acc.length vc) acc) := hown
        clear hown
        have hwr := hKr.size
        have HV : Hid (∀ g, (Value.slice vx acc.length vc).ownBlock = some g → w.heap.size ≤ g ∧ g < wr.heap.size) := kStr.own_lt HO.out
        have hmore := more_rs hRs
        cases l' with
        | nil =>
          have hrd := kStr.own_rd HO.out (T := fun b => w.heap.size ≤ b) (fun b hb => hb.1) (fun g hg => (HV.out g hg).1)
          go_wp2_with (go_at_call 62; refine hmore.mono ?_; rintro e w9 ⟨rfl, hq⟩; have hq' := hq.symm; subst hq')
          go_ret
          refine .ofOk (x := acc) (l := []) ?_ hKr hRs hrd
          rw [HS.out, rdNames_nil]
          simp
        | cons nd l3 =>
          obtain ⟨il, wd, ks, q⟩ := nd
          have hdec : decide (0 < (Nd.mk il wd ks q :: l3).length) = true := by simp
          rw [hdec] at hmore
          clear hdec
          by_cases h7 : 7 ≤ acc.length
          · have HS2 : Hid (rdImports p l = .bad 5 q) := by show _ = _; rw [HS.out, rdNames_cons, if_pos h7]; rfl
            clear HS
            have hc := nextOf_long il wd ks q acc.length 7 h7 hRs
            go_wp2_with (first | (go_at_call 62; refine hmore.mono ?_; rintro e w9 ⟨rfl, hq⟩; have hq' := hq.symm; subst hq') | (go_at_call 64; refine hc.mono ?_; rintro e w5 ⟨rfl, hk1⟩))
            exact ⟨rfl, .ofBad (by rw [HS2.out]; rfl) (hKr.trans hk1)⟩
          · have HS2 : Hid (rdImports p l = ((rdNameOf (.mk il wd ks q)).bind fun f => (rdNames (acc.length + 1) l3).bind fun x => .ok (f :: x)).bind fun x => .ok (acc ++ x)) := by show _ = _; rw [HS.out, rdNames_cons, if_neg h7]
            clear HS
            have hc := nextOf_ok il wd ks q acc.length 7 (by omega) hRs
            cases hr : rdNameOf (.mk il wd ks q) with
            | bad x y =>
              have HR : Hid (rdNameOf (.mk il wd ks q) = .bad x y) := hr
              clear hr
              go_wp2_with (first | (go_at_call 62; refine hmore.mono ?_; rintro e w9 ⟨rfl, hq⟩; have hq' := hq.symm; subst hq') | (go_at_call 64; refine hc.mono ?_; rintro e w5 ⟨a, c, rfl, hrow, hcap, hR5, hK5⟩) | (go_at_call 95; refine (nameOf_any il wd ks q _ _ _).mono ?_; rw [HR.out]; simp only [endOf]; rintro e w6 ⟨rfl, hb6⟩))
              exact ⟨rfl, .ofBad (by rw [HS2.out, HR.out]; rfl) ((hKr.trans hK5).on hb6)⟩
            | ok s =>
              have HR : Hid (rdNameOf (.mk il wd ks q) = .ok s) := hr
              clear hr
              go_wp2_with (first | (go_at_call 62; refine hmore.mono ?_; rintro e w9 ⟨rfl, hq⟩; have hq' := hq.symm; subst hq') | (go_at_call 64; refine hc.mono ?_; rintro e w5 ⟨a, c, rfl, hrow, hcap, hR5, hK5⟩) | (go_at_call 95; refine (nameOf_any il wd ks q _ _ _).mono ?_; rw [HR.out]; simp only [endOf, sval]; rintro e w6 ⟨rfl, hb6⟩; have hkp : Kept (fun k => k = r) wr w6 := hK5.on hb6; obtain ⟨xs, ho, hlay⟩ := kStr.own_keep HO.out hkp (fun k e => by omega)) | (at_builtin; (refine wpList_append_lies _ rfl _ _ 27 rfl w.heap.size 9 i0 _ 1 16 Tryz.underlying27 hi0 hz0 hz1 hz2 rfl (by omega) (.slice vx acc.length vc) acc.length xs rfl (ho.alloc _) ⟨w6.heap.size, 0, none⟩ 1 1 [.string (bs s)] rfl rfl (World.news_of_block (cs := #[.string (bs s)]) (t := 9) (fr := (0, 0)) (heap_alloc_new w6 _)) (by simp [Value.oneCell']) (by omega) (by unfold maxLen; omega) (by omega) (by have := hkp.size; simp; omega) (w6.heap.size + 1) (by simp) ?_; intro g cap w7 hown7 hgrow hat hltg)))
              have hv := HV.out
              have hm3 : ∀ i, (Value.slice vx acc.length vc).ownBlock = some i → w.heap.size ≤ i := fun i e => (hv i e).1
              obtain ⟨hnew, hk7⟩ := kStr.append_all (x := s) hlay (cs := [.string (bs s)]) rfl hown7 hgrow hat
              have hr7 : Rs B w7 r l3 p := (hR5.below hb6).keep hk7 (fun k e => by have := hm3 k e; omega) (fun e => by have := hm3 r e; omega)
              refine ⟨⟨acc ++ [s], l3, by simp; omega, by simpa using hnew, (hKr.trans hkp).past hk7 hm3, hr7, ?_⟩, ?_⟩
              · rw [HS2.out, HR.out, List.length_append, List.length_singleton]
                simp only [Res.bind_ok]
                cases rdNames (acc.length + 1) l3 <;> simp
              · rw [hr7.left, hRs.left]; simp
end Go.Proofs.YtbpdhegfdmppgaaGreatDoor

/- CONTRACT of stmts, where readStmt's holds of smaller nodes. -/
namespace Go.Proofs.YtbpdhegfdmppgaaGreatDoor
open Go.ChangeShapes Go.WideShapes Go.ChangeAt Go.RowKit

theorem stmts_info : (Tryz.prog.info? 110).map (fun i => (i.zero, i.size, i.bytes)) = some (some (.agg #[.int .i64 0, .string ⟨#[]⟩, .bool false, .int .i64 0, .int .i64 0, .int .i64 0, .int .i64 0, .int .u32 0, .int .i64 0, .string ⟨#[]⟩, .slice none 0 0, .int .i64 0, .int .u32 0, .int .i64 0, .string ⟨#[]⟩, .slice none 0 0, .slice none 0 0, .slice none 0 0]), 18, 232) := by kernel_rfl
theorem fold_fill : ∀ (cs : List Value) (done rest : List Value), cs.length = rest.length → List.foldl (fun (a : Array Value) (x : Value × Nat) => a.setIfInBounds x.2 x.1) (done ++ rest).toArray (cs.zipIdx done.length) = (done ++ cs).toArray
  | [], done, [], _ => by simp
  | [], done, _ :: _, h => by cases h
  | c :: cs, done, [], h => by cases h
  | c :: cs, done, x :: rest, h => by
    have hs : (done ++ x :: rest).toArray.setIfInBounds done.length c = ((done ++ [c]) ++ rest).toArray := by simp
    have := fold_fill cs (done ++ [c]) rest (by simpa using h)
    rw [List.length_append, List.length_singleton] at this
    rw [List.zipIdx_cons, List.foldl_cons, hs, this]
    simp
theorem stmt_fill {cs : List Value} (h : cs.length = 18) : List.foldl (fun (a : Array Value) (x : Value × Nat) => a.setIfInBounds x.2 x.1) #[.int .i64 0, .string ⟨#[]⟩, .bool false, .int .i64 0, .int .i64 0, .int .i64 0, .int .i64 0, .int .u32 0, .int .i64 0, .string ⟨#[]⟩, .slice none 0 0, .int .i64 0, .int .u32 0, .int .i64 0, .string ⟨#[]⟩, .slice none 0 0, .slice none 0 0, .slice none 0 0] cs.zipIdx = cs.toArray :=
  fold_fill cs [] [.int .i64 0, .string ⟨#[]⟩, .bool false, .int .i64 0, .int .i64 0, .int .i64 0, .int .i64 0, .int .u32 0, .int .i64 0, .string ⟨#[]⟩, .slice none 0 0, .int .i64 0, .int .u32 0, .int .i64 0, .string ⟨#[]⟩, .slice none 0 0, .slice none 0 0, .slice none 0 0] h
theorem rdSs_nil : rdSs [] = .ok [] := by rw [rdSs]
theorem rdSs_cons (n : Nd) (r : List Nd) : rdSs (n :: r) = (rdS n).bind fun s => (rdSs r).bind fun x => .ok (s :: x) := by rw [rdSs]

set_option maxHeartbeats 6400000 in
set_option maxRecDepth 20000 in
theorem stmts_step {m : Nat} (hm : m ≤ 1000000000) (hE : ∀ k, k < m → StmtN k) : StmtsN m := by
  intro B w r l p h hs
  have hlt := h.lt
  have hB := h.own
  obtain ⟨i0, hi0, hz0, hz1, hz2⟩ := info_parts stmts_info
  go_enter Tryz.func117, Tryz.ntmps117
  go_wp2_with fail
  go_loopw [3] (fun v wr => ∃ (acc : List Sm) (l' : List Nd), acc.length + szL l' ≤ m ∧ kSm.own 110 wr (Own w.heap.size v) w.heap.size v acc ∧ Kept (fun k => k = r) w wr ∧ Rs B wr r l' p ∧ szL l' ≤ m ∧
    rdSs l = (rdSs l').bind fun x => .ok (acc ++ x)) (fun _ wr => leftAt wr r)
  case atStart => exact ⟨[], l, by simpa using hs, kSm.own_none _ _ _ _, Kept.refl _ _, h, hs, by cases rdSs l <;> rfl⟩
  case round =>
    obtain ⟨acc, l', hk, hown, hKr, hRs, hsz, hsp⟩ := hrel
    have HS : Hid (rdSs l = (rdSs l').bind fun x => .ok (acc ++ x)) := hsp
    clear hsp
    obtain ⟨vx, vc, rfl⟩ := kSm.own_form hown
    have HO : Hid (kSm.own 110 wr (Own w.heap.size (.slice vx acc.length vc)) w.heap.size (.slice vx acc.length vc) acc) := hown
    clear hown
    have hwr := hKr.size
    have HV : Hid (∀ g, (Value.slice vx acc.length vc).ownBlock = some g → w.heap.size ≤ g ∧ g < wr.heap.size) := kSm.own_lt HO.out
    have hmore := more_rs hRs
    cases l' with
    | nil =>
      have hrd := kSm.own_rd HO.out (T := fun b => w.heap.size ≤ b) (fun b hb => hb.1) (fun g hg => (HV.out g hg).1)
      go_wp2_with (go_at_call 62; refine hmore.mono ?_; rintro e w9 ⟨rfl, hq⟩; have hq' := hq.symm; subst hq')
      go_ret
      refine .ofOk (x := acc) (l := []) ?_ hKr hRs hrd
      rw [HS.out, rdSs_nil]
      simp
    | cons nd l2 =>
      obtain ⟨il, wd, ks, q⟩ := nd
      have hwok := hRs.wok.1
      have hszl : szL l2 ≤ m := by simp only [szL] at hsz; omega
      have hk2 : acc.length + 1 + szL l2 ≤ m := by simp only [szL, Nd.sz] at hk; omega
      have hszk : szL ks + 1 ≤ m := by simp only [szL, Nd.sz] at hsz; omega
      have hdec : decide (0 < (Nd.mk il wd ks q :: l2).length) = true := by simp
      rw [hdec] at hmore
      clear hdec
      have HS2 : Hid (rdSs l = ((rdS (.mk il wd ks q)).bind fun s => (rdSs l2).bind fun x => .ok (s :: x)).bind fun x => .ok (acc ++ x)) := by show _ = _; rw [HS.out, rdSs_cons]
      clear HS
      have hc := next_ok il wd ks q hRs
      by_cases hent : (!il || !wd.isEmpty) = true
      · have HB : Hid (rdS (.mk il wd ks q) = .bad 6 q) := by show _ = _; rw [rdS, if_pos hent]
        go_wp2_with (first | (go_at_call 62; refine hmore.mono ?_; rintro e w9 ⟨rfl, hq⟩; have hq' := hq.symm; subst hq') | (go_at_call 56; refine hc.mono ?_; rintro e w1 ⟨a, c, rfl, hrow, hcap, hR1, hK1⟩) | (go_at_call 55; refine (enter_bad _ _ _ _ _ _ hent).mono ?_; rintro e wb ⟨rfl, hbb⟩))
        exact ⟨rfl, .ofBad (by rw [HS2.out, HB.out]; rfl) ((hKr.trans hK1).on hbb)⟩
      · obtain ⟨hil, hwd⟩ : il = true ∧ wd = [] := by simpa using hent
        subst hil hwd
        clear hent
        have hS : rdS (.mk true [] ks q) = rdSt q ks := by rw [rdS]; rfl
        cases ks with
        | nil =>
          have HB : Hid (rdS (.mk true [] [] q) = .bad 6 q) := by show _ = _; rw [hS, rdSt.eq_def]
          clear hS
          go_wp2_with (first | (go_at_call 62; refine hmore.mono ?_; rintro e w9 ⟨rfl, hq⟩; have hq' := hq.symm; subst hq') | (go_at_call_of 56 (Value.pointer (some ⟨r, 0, none⟩)); refine hc.mono ?_; rintro e w1 ⟨a, c, rfl, hrow, hcap, hR1, hK1⟩) | (go_at_call 55; refine (enter_ok (B := B) [] q a c hR1.glob.le hR1.glob hwok.2 hrow hcap).mono ?_; rintro e w2 ⟨r2, rfl, hr2, hR2, hb2⟩) | (go_at_call_of 56 (Value.pointer (some ⟨r2, 0, none⟩)); refine (next_bad hR2).mono ?_; rintro e w3 ⟨rfl, hb3⟩))
          exact ⟨rfl, .ofBad (by rw [HS2.out, HB.out]; rfl) (((hKr.trans hK1).on hb2).on hb3)⟩
        | cons n1 ks =>
          obtain ⟨il1, wd1, ks1, q1⟩ := n1
          have hstm := hE (szL ks) (by simp only [szL, Nd.sz] at hszk; omega)
          have hw2 : wokL (Nd.mk il1 wd1 ks1 q1 :: ks) := hwok.2
          cases hr : rdSt q (.mk il1 wd1 ks1 q1 :: ks) with
          | bad x y =>
            have HR : Hid ((rdSt q (.mk il1 wd1 ks1 q1 :: ks)).bind (fun x => Res.ok (x, ([] : List Nd))) = .bad x y) := by show _ = _; rw [hr]; rfl
            have HB : Hid (rdS (.mk true [] (.mk il1 wd1 ks1 q1 :: ks) q) = .bad x y) := hS.trans hr
            clear hr hS
            go_wp2_with (first | (go_at_call 62; refine hmore.mono ?_; rintro e w9 ⟨rfl, hq⟩; have hq' := hq.symm; subst hq') | (go_at_call_of 56 (Value.pointer (some ⟨r, 0, none⟩)); refine hc.mono ?_; rintro e w1 ⟨a, c, rfl, hrow, hcap, hR1, hK1⟩) | (go_at_call 55; refine (enter_ok (B := B) (.mk il1 wd1 ks1 q1 :: ks) q a c hR1.glob.le hR1.glob hw2 hrow hcap).mono ?_; rintro e w2 ⟨r2, rfl, hr2, hR2, hb2⟩) | (go_at_call_of 56 (Value.pointer (some ⟨r2, 0, none⟩)); refine (next_ok il1 wd1 ks1 q1 hR2).mono ?_; rintro e w3 ⟨a3, c3, rfl, hrow3, hcap3, hR3, hK3⟩) | (go_at_call 99; refine (hstm B _ r2 ks q il1 wd1 ks1 q1 a3 c3 hR3 (Nat.le_refl _)).mono ?_; rintro e w4 hG; obtain rfl := hG.bad _ _ HR.out))
            have hw1 := Nat.le_trans (Nat.le_trans hKr.size hK1.size) hr2
            exact ⟨rfl, .ofBad (by rw [HS2.out, HB.out]; rfl) (((hKr.trans hK1).on hb2).past (hK3.trans hG.kept) fun i e => by rw [e]; exact hw1)⟩
          | ok x =>
            have HR : Hid ((rdSt q (.mk il1 wd1 ks1 q1 :: ks)).bind (fun x => Res.ok (x, ([] : List Nd))) = .ok (x, [])) := by show _ = _; rw [hr]; rfl
            have HB : Hid (rdS (.mk true [] (.mk il1 wd1 ks1 q1 :: ks) q) = .ok x) := hS.trans hr
            clear hr hS
            go_wp2_with (first | (go_at_call 62; refine hmore.mono ?_; rintro e w9 ⟨rfl, hq⟩; have hq' := hq.symm; subst hq') | (go_at_call_of 56 (Value.pointer (some ⟨r, 0, none⟩)); refine hc.mono ?_; rintro e w1 ⟨a, c, rfl, hrow, hcap, hR1, hK1⟩) | (go_at_call 55; refine (enter_ok (B := B) (.mk il1 wd1 ks1 q1 :: ks) q a c hR1.glob.le hR1.glob hw2 hrow hcap).mono ?_; rintro e w2 ⟨r2, rfl, hr2, hR2, hb2⟩) | (go_at_call_of 56 (Value.pointer (some ⟨r2, 0, none⟩)); refine (next_ok il1 wd1 ks1 q1 hR2).mono ?_; rintro e w3 ⟨a3, c3, rfl, hrow3, hcap3, hR3, hK3⟩) | (go_at_call 99; refine (hstm B _ r2 ks q il1 wd1 ks1 q1 a3 c3 hR3 (Nat.le_refl _)).mono ?_; rintro e w4 hG; obtain ⟨hR4, v, rfl, cs, rfl, hC⟩ := hG.ok _ _ HR.out; have hl18 : cs.length = 18 := smC_len hC; have hfill := stmt_fill hl18; have hkp : Kept (fun k => k = r) wr w4 := (hK1.on hb2).past (hK3.trans hG.kept) (fun i e => by rw [e]; exact Nat.le_trans hK1.size hr2); obtain ⟨xs, ho, hlay⟩ := kSm.own_keep HO.out hkp (fun k e => by omega)) | (at_builtin; (refine wpList_append_lies _ rfl _ _ 41 rfl w.heap.size 110 i0 _ 18 232 Tryz.underlying41 hi0 hz0 hz1 hz2 rfl (by omega) (.slice vx acc.length vc) acc.length xs rfl (ho.alloc _) ⟨w4.heap.size, 0, none⟩ 1 1 cs rfl (smC_len hC) (World.news_of_block (cs := cs.toArray) (t := 110) (fr := (0, 0)) (heap_alloc_new w4 _)) (smC_one hC) (by omega) (by unfold maxLen; omega) (by omega) (by have := hkp.size; simp; omega) (w4.heap.size + 1) (by simp) ?_; intro g cap w5 hown5 hgrow hat hltg)))
            have hv := HV.out
            have hm3 : ∀ i, (Value.slice vx acc.length vc).ownBlock = some i → w.heap.size ≤ i := fun i e => (hv i e).1
            have hw34 : wr.heap.size ≤ w3.heap.size := Nat.le_trans (Nat.le_trans hK1.size hb2.size) hK3.size
            obtain ⟨hnew, hk5⟩ := kSm.append_all (x := x) hlay (smC_mono (fun b hb hl => ⟨⟨Nat.le_trans hwr (Nat.le_trans hw34 hb), fun e => by have := (hv b e).2; omega⟩, rfl⟩) hC) hown5 hgrow hat
            have hr5 : Rs B w5 r l2 p := ((hR1.below hb2).keep (hK3.trans hG.kept) (fun k e => by have := hR2.own; omega) (fun e => by have := hK1.size; omega)).keep hk5 (fun k e => by have := hm3 k e; omega) (fun e => by have := hm3 r e; omega)
            refine ⟨⟨acc ++ [x], l2, by simp; omega, by simpa using hnew, (hKr.trans hkp).past hk5 hm3, hr5, hszl, ?_⟩, ?_⟩
            · rw [HS2.out, HB.out]
              simp only [Res.bind_ok]
              cases rdSs l2 <;> simp
            · rw [hr5.left, hRs.left]; simp
end Go.Proofs.YtbpdhegfdmppgaaGreatDoor

/- WHERE A READER'S CALL IS, if its list is its own ('Rh'); a call as one step of a region that draws its order. -/
namespace Go.Proofs.YtbpdhegfdmppgaaGreatDoor
open Go.ChangeShapes Go.WideShapes Go.ChangeAt Go.RowKit

structure Rh (B : Nat) (w w' : World) (r : Nat) (l : List Nd) (p : Int) (T : TypeId) (R : Nat) (rc : Array Value) (X : Nat) (xc : Array Value) : Prop where
  below : Below w.heap.size w w'
  rs : Rs B w' r l p
  res : w'.heap[R]? = some (.cells rc T (0, 0))
  x : w'.heap[X]? = some (.cells xc T (0, 0))
  hR : w.heap.size ≤ R
  hX : w.heap.size ≤ X
  hr : w.heap.size ≤ r
  hB : B ≤ w.heap.size
  ne : R ≠ X
  n1 : r ≠ R
  n2 : r ≠ X
section
variable {B : Nat} {w w' : World} {r : Nat} {l : List Nd} {p : Int} {T : TypeId} {R : Nat} {rc : Array Value} {X : Nat} {xc : Array Value}
theorem Rh.cell (h : Rh B w w' r l p T R rc X xc) (i : Nat) : w'.cell? ⟨X, i, none⟩ = xc[i]? := by simp [World.cell?, h.x]
theorem Rh.free (h : Rh B w w' r l p T R rc X xc) (i : Nat) : w'.frozen? ⟨X, i, none⟩ = false := by simp [World.frozen?, h.x]
theorem Rh.lt (h : Rh B w w' r l p T R rc X xc) : X < w'.heap.size := lt_of_some h.x
theorem Rh.rlt (h : Rh B w w' r l p T R rc X xc) : R < w'.heap.size := lt_of_some h.res
theorem Rh.set (h : Rh B w w' r l p T R rc X xc) (i : Nat) (v : Value) {xc' : Array Value} (e : xc.setIfInBounds i v = xc') : Rh B w (w'.setCell ⟨X, i, none⟩ v) r l p T R rc X xc' where
  below := none_below ((Below.kept h.below (fun _ => False)).set_new _ _ _ h.hX)
  rs := h.rs.keep (Kept.set w' X i v) (fun k e => by have := h.hX; have := h.hB; omega) (fun e => h.n2 e)
  res := by rw [setCell_other h.ne]; exact h.res
  x := by rw [setCell_at h.x, e]
  hR := h.hR
  hX := h.hX
  hr := h.hr
  hB := h.hB
  ne := h.ne
  n1 := h.n1
  n2 := h.n2
theorem Rh.step (h : Rh B w w' r l p T R rc X xc) {w'' : World} {l' : List Nd} (hk : Kept (fun k => k = r) w' w'') (hr : Rs B w'' r l' p) : Rh B w w'' r l' p T R rc X xc where
  below := none_below ((Below.kept h.below (fun _ => False)).past hk fun i e => by rw [e]; exact h.hr)
  rs := hr
  res := keep_box h.res hk (fun e => h.n1 e.symm)
  x := keep_box h.x hk (fun e => h.n2 e.symm)
  hR := h.hR
  hX := h.hX
  hr := h.hr
  hB := h.hB
  ne := h.ne
  n1 := h.n1
  n2 := h.n2
theorem Rh.on (h : Rh B w w' r l p T R rc X xc) {w'' : World} (hb : Below w'.heap.size w' w'') : Rh B w w'' r l p T R rc X xc := h.step (Below.kept hb _) (h.rs.below hb)
theorem Rh.other (h : Rh B w w' r l p T R rc X xc) {w'' : World} {M : Nat → Prop} (hk : Kept M w' w'') (h1 : ¬ M R) (h2 : ¬ M X) (h3 : ¬ M r) (h4 : ∀ i, M i → w.heap.size ≤ i) : Rh B w w'' r l p T R rc X xc where
  below := none_below ((Below.kept h.below (fun _ => False)).past hk h4)
  rs := h.rs.keep hk (fun i e => by have := h4 i e; have := h.hB; omega) h3
  res := keep_box h.res hk h1
  x := keep_box h.x hk h2
  hR := h.hR
  hX := h.hX
  hr := h.hr
  hB := h.hB
  ne := h.ne
  n1 := h.n1
  n2 := h.n2
end
/-- A call of a Go function as one step of a region that draws. -/
theorem step_call {P : Program} {ops : Array Oper} {o : Oper} {a : Act} {w : World} {K : Act → World → Prop} {Q : Exit → Act → World → Prop} {E : Prop} (hg : o.guard = none) (f : FuncId) (xs : Array Operand) (ts : Array TypeId)
    (_ho : o.op = Op.call { callee := Callee.value (.func f), args := xs, argTypes := ts }) (args : Array Value) (hrun : (execOp a.eval o).run P w = .ok (.enter f args) w)
    (h : Calls P f args w fun e w' => match e with
      | .returned v => K (a.put o.dst v) w'
      | .panicked chain => Q (.panic chain) a w'
      | .outgrown => LetsOut Q) : if Region.wanted o (yielded ops a.tmps) = true then Oper.wp P o a w K Q else E := by
  have hw : Region.wanted o (yielded ops a.tmps) = true := by simp [Region.wanted, hg]
  rw [if_pos hw]
  unfold Oper.wp
  rw [hrun, Oper.upon_enter]
  refine h.mono ?_
  intro e w' he
  cases e <;> exact he
end Go.Proofs.YtbpdhegfdmppgaaGreatDoor

/- CONTRACT of readStmt at a list that begins with 'let', where stmts' holds of smaller nodes. -/
namespace Go.Proofs.YtbpdhegfdmppgaaGreatDoor
open Go.ChangeShapes Go.WideShapes Go.ChangeAt Go.RowKit

set_option maxHeartbeats 12800000 in
set_option maxRecDepth 20000 in
theorem stmt_let
    {m B : Nat} {w : World} {r : Nat} {l : List Nd} {p : Int} (il : Bool) (wd : List UInt8) (ks : List Nd) (q : Int) (a : Option Addr) (c : Nat) (_hS : StmtsN m) (h : Rs B w r l p) (_hs : szL l ≤ m) (ht : rdText (.mk il wd ks q) = .ok [108, 101, 116]) :
    Calls Tryz.prog 99 #[.agg #[.bool il, .string (bs wd), .slice a ks.length c, .int .i64 q], .pointer (some ⟨r, 0, none⟩)] w (Takes SmV B w r p ((rdSt p (.mk il wd ks q :: l)).bind fun x => .ok (x, []))) := by
  have hlt := h.lt
  have hB := h.own
  have HT : Hid (rdText (.mk il wd ks q) = .ok [108, 101, 116]) := ht
  have HSP : Hid _ := st_let (p := p) (r := l) ht
  have hts : (bs [108, 101, 116]).toList = [108, 101, 116] := by rw [ByteArray.toList_eq, bs_list]
  clear ht
  cases hr3 : rdBy rdNameOf p l with
  | bad x y =>
    have HR3 : Hid (rdBy rdNameOf p l = .bad x y) := hr3
    clear hr3
    go_enter Tryz.func99, Tryz.ntmps99
    go_wp2_with (go_at_call 94; refine (text_bs il wd ks q _ _ _).mono ?_; rw [HT.out]; simp only [endOf, sval]; rintro e w2 ⟨rfl, hb2⟩; have hf2 := (Rg.start3 h 110 _ #[.int .i64 0, .string ⟨#[]⟩, .bool false, .int .i64 0, .int .i64 0, .int .i64 0, .int .i64 0, .int .u32 0, .int .i64 0, .string ⟨#[]⟩, .slice none 0 0, .int .i64 0, .int .u32 0, .int .i64 0, .string ⟨#[]⟩, .slice none 0 0, .slice none 0 0, .slice none 0 0] #[.int .i64 0, .string ⟨#[]⟩, .bool false, .int .i64 0, .int .i64 0, .int .i64 0, .int .i64 0, .int .u32 0, .int .i64 0, .string ⟨#[]⟩, .slice none 0 0, .int .i64 0, .int .u32 0, .int .i64 0, .string ⟨#[]⟩, .slice none 0 0, .slice none 0 0, .slice none 0 0]).below hb2; have c2 := hf2.cell; have z2 := hf2.free; have s2 := hf2.lt; have rc2 := hf2.rcell; have rz2 := hf2.rfree; have rs2 := hf2.rlt; have hg2 := (hf2.set 0 (.int .i64 1) (xc' := #[.int .i64 1, .string ⟨#[]⟩, .bool false, .int .i64 0, .int .i64 0, .int .i64 0, .int .i64 0, .int .u32 0, .int .i64 0, .string ⟨#[]⟩, .slice none 0 0, .int .i64 0, .int .u32 0, .int .i64 0, .string ⟨#[]⟩, .slice none 0 0, .slice none 0 0, .slice none 0 0]) rfl); have fg2 := ((Far.refl (w.heap.size + 2) w2).set 0 (.int .i64 1)))
    go_wp2_with (go_at_call 58; refine (name_tk hg2.rs).mono ?_; rintro e w3 hG3; obtain rfl := hG3.bad _ _ HR3.out)
    exact ⟨rfl, .ofBad (by simp only [HSP.out, HR3.out, Res.bind_bad]) (hg2.kept.trans hG3.kept)⟩
  | ok y3 =>
    obtain ⟨t3, l3⟩ := y3
    have HR3 : Hid (rdBy rdNameOf p l = .ok (t3, l3)) := hr3
    have hsz3 := (rdBy_sz hr3).1
    clear hr3
    cases hr4 : rdBy rdE p l3 with
    | bad x y =>
      have HR4 : Hid (rdBy rdE p l3 = .bad x y) := hr4
      clear hr4
      go_enter Tryz.func99, Tryz.ntmps99
      go_wp2_with (go_at_call 94; refine (text_bs il wd ks q _ _ _).mono ?_; rw [HT.out]; simp only [endOf, sval]; rintro e w2 ⟨rfl, hb2⟩; have hf2 := (Rg.start3 h 110 _ #[.int .i64 0, .string ⟨#[]⟩, .bool false, .int .i64 0, .int .i64 0, .int .i64 0, .int .i64 0, .int .u32 0, .int .i64 0, .string ⟨#[]⟩, .slice none 0 0, .int .i64 0, .int .u32 0, .int .i64 0, .string ⟨#[]⟩, .slice none 0 0, .slice none 0 0, .slice none 0 0] #[.int .i64 0, .string ⟨#[]⟩, .bool false, .int .i64 0, .int .i64 0, .int .i64 0, .int .i64 0, .int .u32 0, .int .i64 0, .string ⟨#[]⟩, .slice none 0 0, .int .i64 0, .int .u32 0, .int .i64 0, .string ⟨#[]⟩, .slice none 0 0, .slice none 0 0, .slice none 0 0]).below hb2; have c2 := hf2.cell; have z2 := hf2.free; have s2 := hf2.lt; have rc2 := hf2.rcell; have rz2 := hf2.rfree; have rs2 := hf2.rlt; have hg2 := (hf2.set 0 (.int .i64 1) (xc' := #[.int .i64 1, .string ⟨#[]⟩, .bool false, .int .i64 0, .int .i64 0, .int .i64 0, .int .i64 0, .int .u32 0, .int .i64 0, .string ⟨#[]⟩, .slice none 0 0, .int .i64 0, .int .u32 0, .int .i64 0, .string ⟨#[]⟩, .slice none 0 0, .slice none 0 0, .slice none 0 0]) rfl); have fg2 := ((Far.refl (w.heap.size + 2) w2).set 0 (.int .i64 1)))
      go_wp2_with (go_at_call 58; refine (name_tk hg2.rs).mono ?_; rintro e w3 hG3; obtain ⟨hRs3, v3, rfl, rfl⟩ := hG3.ok _ _ HR3.out; have hf3 := hg2.step hG3.kept hRs3; clear c2 z2 rc2 rz2; have c3 := hf3.cell; have z3 := hf3.free; have s3 := hf3.lt; have rc3 := hf3.rcell; have rz3 := hf3.rfree; have rs3 := hf3.rlt; have far3 : Far _ w2 w3 := fg2.kept hG3.kept (by omega); have hg3 := (hf3.set 1 (.string (bs t3)) (xc' := #[.int .i64 1, .string (bs t3), .bool false, .int .i64 0, .int .i64 0, .int .i64 0, .int .i64 0, .int .u32 0, .int .i64 0, .string ⟨#[]⟩, .slice none 0 0, .int .i64 0, .int .u32 0, .int .i64 0, .string ⟨#[]⟩, .slice none 0 0, .slice none 0 0, .slice none 0 0]) rfl); have fg3 := ((Far.refl (w.heap.size + 2) w3).set 1 (.string (bs t3))); clear hg2)
      go_wp2_with (go_at_call 98; refine (expr_tk hg3.rs).mono ?_; rintro e w4 hG4; obtain rfl := hG4.bad _ _ HR4.out)
      exact ⟨rfl, .ofBad (by simp only [HSP.out, HR3.out, HR4.out, Res.bind_ok, Res.bind_bad]) (hg3.kept.trans hG4.kept)⟩
    | ok y4 =>
      obtain ⟨⟨k4, n4, o4, m4, xl4⟩, l4⟩ := y4
      have HR4 : Hid (rdBy rdE p l3 = .ok (.mk k4 n4 o4 m4 xl4, l4)) := hr4
      have hsz4 := (rdBy_sz hr4).1
      clear hr4
      cases hr5 : ((rdEnd l4).bind fun y => Res.ok (y, ([] : List Nd))) with
      | bad x y =>
        have HR5 : Hid (((rdEnd l4).bind fun y => Res.ok (y, ([] : List Nd))) = .bad x y) := hr5
        clear hr5
        go_enter Tryz.func99, Tryz.ntmps99
        go_wp2_with (go_at_call 94; refine (text_bs il wd ks q _ _ _).mono ?_; rw [HT.out]; simp only [endOf, sval]; rintro e w2 ⟨rfl, hb2⟩; have hf2 := (Rg.start3 h 110 _ #[.int .i64 0, .string ⟨#[]⟩, .bool false, .int .i64 0, .int .i64 0, .int .i64 0, .int .i64 0, .int .u32 0, .int .i64 0, .string ⟨#[]⟩, .slice none 0 0, .int .i64 0, .int .u32 0, .int .i64 0, .string ⟨#[]⟩, .slice none 0 0, .slice none 0 0, .slice none 0 0] #[.int .i64 0, .string ⟨#[]⟩, .bool false, .int .i64 0, .int .i64 0, .int .i64 0, .int .i64 0, .int .u32 0, .int .i64 0, .string ⟨#[]⟩, .slice none 0 0, .int .i64 0, .int .u32 0, .int .i64 0, .string ⟨#[]⟩, .slice none 0 0, .slice none 0 0, .slice none 0 0]).below hb2; have c2 := hf2.cell; have z2 := hf2.free; have s2 := hf2.lt; have rc2 := hf2.rcell; have rz2 := hf2.rfree; have rs2 := hf2.rlt; have hg2 := (hf2.set 0 (.int .i64 1) (xc' := #[.int .i64 1, .string ⟨#[]⟩, .bool false, .int .i64 0, .int .i64 0, .int .i64 0, .int .i64 0, .int .u32 0, .int .i64 0, .string ⟨#[]⟩, .slice none 0 0, .int .i64 0, .int .u32 0, .int .i64 0, .string ⟨#[]⟩, .slice none 0 0, .slice none 0 0, .slice none 0 0]) rfl); have fg2 := ((Far.refl (w.heap.size + 2) w2).set 0 (.int .i64 1)))
        go_wp2_with (go_at_call 58; refine (name_tk hg2.rs).mono ?_; rintro e w3 hG3; obtain ⟨hRs3, v3, rfl, rfl⟩ := hG3.ok _ _ HR3.out; have hf3 := hg2.step hG3.kept hRs3; clear c2 z2 rc2 rz2; have c3 := hf3.cell; have z3 := hf3.free; have s3 := hf3.lt; have rc3 := hf3.rcell; have rz3 := hf3.rfree; have rs3 := hf3.rlt; have far3 : Far _ w2 w3 := fg2.kept hG3.kept (by omega); have hg3 := (hf3.set 1 (.string (bs t3)) (xc' := #[.int .i64 1, .string (bs t3), .bool false, .int .i64 0, .int .i64 0, .int .i64 0, .int .i64 0, .int .u32 0, .int .i64 0, .string ⟨#[]⟩, .slice none 0 0, .int .i64 0, .int .u32 0, .int .i64 0, .string ⟨#[]⟩, .slice none 0 0, .slice none 0 0, .slice none 0 0]) rfl); have fg3 := ((Far.refl (w.heap.size + 2) w3).set 1 (.string (bs t3))); clear hg2)
        go_wp2_with (go_at_call 98; refine (expr_tk hg3.rs).mono ?_; rintro e w4 hG4; obtain ⟨hRs4, v4, rfl, va4, vc4, rfl, hvc4, hvr4⟩ := hG4.ok _ _ HR4.out; have hf4 := hg3.step hG4.kept hRs4; clear c3 z3 rc3 rz3; have c4 := hf4.cell; have z4 := hf4.free; have s4 := hf4.lt; have rc4 := hf4.rcell; have rz4 := hf4.rfree; have rs4 := hf4.rlt; have far4 : Far _ w3 w4 := fg3.kept hG4.kept (by omega); have q4_4 := exR_mono (T := fun b => w.heap.size + 2 < b) (fun b hb hl => ⟨Nat.lt_of_lt_of_le hg3.lt hb, rfl⟩) hvr4; have hg4 := (((((hf4.set 11 (.int .i64 k4) (xc' := #[.int .i64 1, .string (bs t3), .bool false, .int .i64 0, .int .i64 0, .int .i64 0, .int .i64 0, .int .u32 0, .int .i64 0, .string ⟨#[]⟩, .slice none 0 0, .int .i64 k4, .int .u32 0, .int .i64 0, .string ⟨#[]⟩, .slice none 0 0, .slice none 0 0, .slice none 0 0]) rfl).set 12 (.int .u32 n4) (xc' := #[.int .i64 1, .string (bs t3), .bool false, .int .i64 0, .int .i64 0, .int .i64 0, .int .i64 0, .int .u32 0, .int .i64 0, .string ⟨#[]⟩, .slice none 0 0, .int .i64 k4, .int .u32 n4, .int .i64 0, .string ⟨#[]⟩, .slice none 0 0, .slice none 0 0, .slice none 0 0]) rfl).set 13 (.int .i64 o4) (xc' := #[.int .i64 1, .string (bs t3), .bool false, .int .i64 0, .int .i64 0, .int .i64 0, .int .i64 0, .int .u32 0, .int .i64 0, .string ⟨#[]⟩, .slice none 0 0, .int .i64 k4, .int .u32 n4, .int .i64 o4, .string ⟨#[]⟩, .slice none 0 0, .slice none 0 0, .slice none 0 0]) rfl).set 14 (.string (bs m4)) (xc' := #[.int .i64 1, .string (bs t3), .bool false, .int .i64 0, .int .i64 0, .int .i64 0, .int .i64 0, .int .u32 0, .int .i64 0, .string ⟨#[]⟩, .slice none 0 0, .int .i64 k4, .int .u32 n4, .int .i64 o4, .string (bs m4), .slice none 0 0, .slice none 0 0, .slice none 0 0]) rfl).set 15 (.slice va4 xl4.length vc4) (xc' := #[.int .i64 1, .string (bs t3), .bool false, .int .i64 0, .int .i64 0, .int .i64 0, .int .i64 0, .int .u32 0, .int .i64 0, .string ⟨#[]⟩, .slice none 0 0, .int .i64 k4, .int .u32 n4, .int .i64 o4, .string (bs m4), .slice va4 xl4.length vc4, .slice none 0 0, .slice none 0 0]) rfl); have fg4 := ((((((Far.refl (w.heap.size + 2) w4).set 11 (.int .i64 k4)).set 12 (.int .u32 n4)).set 13 (.int .i64 o4)).set 14 (.string (bs m4))).set 15 (.slice va4 xl4.length vc4)); clear hg3)
        go_wp2_with (go_at_call 59; refine (end_tk hg4.rs).mono ?_; rintro e w5 hG5; obtain rfl := hG5.bad _ _ HR5.out)
        exact ⟨rfl, .ofBad (by simp only [HSP.out, HR3.out, HR4.out, HR5.out, Res.bind_ok, Res.bind_bad]) (hg4.kept.trans hG5.kept)⟩
      | ok y5 =>
        obtain ⟨u5, l5⟩ := y5
        have HR5 : Hid (((rdEnd l4).bind fun y => Res.ok (y, ([] : List Nd))) = .ok (u5, l5)) := hr5
        obtain rfl := end_nil hr5
        clear hr5
        go_enter Tryz.func99, Tryz.ntmps99
        go_wp2_with (go_at_call 94; refine (text_bs il wd ks q _ _ _).mono ?_; rw [HT.out]; simp only [endOf, sval]; rintro e w2 ⟨rfl, hb2⟩; have hf2 := (Rg.start3 h 110 _ #[.int .i64 0, .string ⟨#[]⟩, .bool false, .int .i64 0, .int .i64 0, .int .i64 0, .int .i64 0, .int .u32 0, .int .i64 0, .string ⟨#[]⟩, .slice none 0 0, .int .i64 0, .int .u32 0, .int .i64 0, .string ⟨#[]⟩, .slice none 0 0, .slice none 0 0, .slice none 0 0] #[.int .i64 0, .string ⟨#[]⟩, .bool false, .int .i64 0, .int .i64 0, .int .i64 0, .int .i64 0, .int .u32 0, .int .i64 0, .string ⟨#[]⟩, .slice none 0 0, .int .i64 0, .int .u32 0, .int .i64 0, .string ⟨#[]⟩, .slice none 0 0, .slice none 0 0, .slice none 0 0]).below hb2; have c2 := hf2.cell; have z2 := hf2.free; have s2 := hf2.lt; have rc2 := hf2.rcell; have rz2 := hf2.rfree; have rs2 := hf2.rlt; have hg2 := (hf2.set 0 (.int .i64 1) (xc' := #[.int .i64 1, .string ⟨#[]⟩, .bool false, .int .i64 0, .int .i64 0, .int .i64 0, .int .i64 0, .int .u32 0, .int .i64 0, .string ⟨#[]⟩, .slice none 0 0, .int .i64 0, .int .u32 0, .int .i64 0, .string ⟨#[]⟩, .slice none 0 0, .slice none 0 0, .slice none 0 0]) rfl); have fg2 := ((Far.refl (w.heap.size + 2) w2).set 0 (.int .i64 1)))
        go_wp2_with (go_at_call 58; refine (name_tk hg2.rs).mono ?_; rintro e w3 hG3; obtain ⟨hRs3, v3, rfl, rfl⟩ := hG3.ok _ _ HR3.out; have hf3 := hg2.step hG3.kept hRs3; clear c2 z2 rc2 rz2; have c3 := hf3.cell; have z3 := hf3.free; have s3 := hf3.lt; have rc3 := hf3.rcell; have rz3 := hf3.rfree; have rs3 := hf3.rlt; have far3 : Far _ w2 w3 := fg2.kept hG3.kept (by omega); have hg3 := (hf3.set 1 (.string (bs t3)) (xc' := #[.int .i64 1, .string (bs t3), .bool false, .int .i64 0, .int .i64 0, .int .i64 0, .int .i64 0, .int .u32 0, .int .i64 0, .string ⟨#[]⟩, .slice none 0 0, .int .i64 0, .int .u32 0, .int .i64 0, .string ⟨#[]⟩, .slice none 0 0, .slice none 0 0, .slice none 0 0]) rfl); have fg3 := ((Far.refl (w.heap.size + 2) w3).set 1 (.string (bs t3))); clear hg2)
        go_wp2_with (go_at_call 98; refine (expr_tk hg3.rs).mono ?_; rintro e w4 hG4; obtain ⟨hRs4, v4, rfl, va4, vc4, rfl, hvc4, hvr4⟩ := hG4.ok _ _ HR4.out; have hf4 := hg3.step hG4.kept hRs4; clear c3 z3 rc3 rz3; have c4 := hf4.cell; have z4 := hf4.free; have s4 := hf4.lt; have rc4 := hf4.rcell; have rz4 := hf4.rfree; have rs4 := hf4.rlt; have far4 : Far _ w3 w4 := fg3.kept hG4.kept (by omega); have q4_4 := exR_mono (T := fun b => w.heap.size + 2 < b) (fun b hb hl => ⟨Nat.lt_of_lt_of_le hg3.lt hb, rfl⟩) hvr4; have hg4 := (((((hf4.set 11 (.int .i64 k4) (xc' := #[.int .i64 1, .string (bs t3), .bool false, .int .i64 0, .int .i64 0, .int .i64 0, .int .i64 0, .int .u32 0, .int .i64 0, .string ⟨#[]⟩, .slice none 0 0, .int .i64 k4, .int .u32 0, .int .i64 0, .string ⟨#[]⟩, .slice none 0 0, .slice none 0 0, .slice none 0 0]) rfl).set 12 (.int .u32 n4) (xc' := #[.int .i64 1, .string (bs t3), .bool false, .int .i64 0, .int .i64 0, .int .i64 0, .int .i64 0, .int .u32 0, .int .i64 0, .string ⟨#[]⟩, .slice none 0 0, .int .i64 k4, .int .u32 n4, .int .i64 0, .string ⟨#[]⟩, .slice none 0 0, .slice none 0 0, .slice none 0 0]) rfl).set 13 (.int .i64 o4) (xc' := #[.int .i64 1, .string (bs t3), .bool false, .int .i64 0, .int .i64 0, .int .i64 0, .int .i64 0, .int .u32 0, .int .i64 0, .string ⟨#[]⟩, .slice none 0 0, .int .i64 k4, .int .u32 n4, .int .i64 o4, .string ⟨#[]⟩, .slice none 0 0, .slice none 0 0, .slice none 0 0]) rfl).set 14 (.string (bs m4)) (xc' := #[.int .i64 1, .string (bs t3), .bool false, .int .i64 0, .int .i64 0, .int .i64 0, .int .i64 0, .int .u32 0, .int .i64 0, .string ⟨#[]⟩, .slice none 0 0, .int .i64 k4, .int .u32 n4, .int .i64 o4, .string (bs m4), .slice none 0 0, .slice none 0 0, .slice none 0 0]) rfl).set 15 (.slice va4 xl4.length vc4) (xc' := #[.int .i64 1, .string (bs t3), .bool false, .int .i64 0, .int .i64 0, .int .i64 0, .int .i64 0, .int .u32 0, .int .i64 0, .string ⟨#[]⟩, .slice none 0 0, .int .i64 k4, .int .u32 n4, .int .i64 o4, .string (bs m4), .slice va4 xl4.length vc4, .slice none 0 0, .slice none 0 0]) rfl); have fg4 := ((((((Far.refl (w.heap.size + 2) w4).set 11 (.int .i64 k4)).set 12 (.int .u32 n4)).set 13 (.int .i64 o4)).set 14 (.string (bs m4))).set 15 (.slice va4 xl4.length vc4)); clear hg3)
        go_wp2_with (first | (go_at_call 59; refine (end_tk hg4.rs).mono ?_; rintro e w5 hG5; obtain ⟨hRs5, v5, rfl, rfl⟩ := hG5.ok _ _ HR5.out; have hf5 := hg4.step hG5.kept hRs5; clear c4 z4 rc4 rz4; have far5 : Far _ w4 w5 := fg4.kept hG5.kept (by omega); have q4_5 := exR_mono far5.goes q4_4) | (refine wpList_load_row rfl 110 (.tmp 5) rfl (w.heap.size + 2) rfl 110 #[.int .i64 1, .string (bs t3), .bool false, .int .i64 0, .int .i64 0, .int .i64 0, .int .i64 0, .int .u32 0, .int .i64 0, .string ⟨#[]⟩, .slice none 0 0, .int .i64 k4, .int .u32 n4, .int .i64 o4, .string (bs m4), .slice va4 xl4.length vc4, .slice none 0 0, .slice none 0 0] (0, 0) _ hf5.x Tryz.underlying110 rfl info_stmt ?_) | (refine wpList_store_row rfl 110 (.tmp 4) _ rfl (w.heap.size + 1) #[.int .i64 1, .string (bs t3), .bool false, .int .i64 0, .int .i64 0, .int .i64 0, .int .i64 0, .int .u32 0, .int .i64 0, .string ⟨#[]⟩, .slice none 0 0, .int .i64 k4, .int .u32 n4, .int .i64 o4, .string (bs m4), .slice va4 xl4.length vc4, .slice none 0 0, .slice none 0 0] rfl rfl 110 #[.int .i64 0, .string ⟨#[]⟩, .bool false, .int .i64 0, .int .i64 0, .int .i64 0, .int .i64 0, .int .u32 0, .int .i64 0, .string ⟨#[]⟩, .slice none 0 0, .int .i64 0, .int .u32 0, .int .i64 0, .string ⟨#[]⟩, .slice none 0 0, .slice none 0 0, .slice none 0 0] hf5.res info_stmt rfl (by simp [Value.oneCell']) ?_))
        have hEn := setRow_at (cs := #[.int .i64 1, .string (bs t3), .bool false, .int .i64 0, .int .i64 0, .int .i64 0, .int .i64 0, .int .u32 0, .int .i64 0, .string ⟨#[]⟩, .slice none 0 0, .int .i64 k4, .int .u32 n4, .int .i64 o4, .string (bs m4), .slice va4 xl4.length vc4, .slice none 0 0, .slice none 0 0]) hf5.res
        have hKw := setRow_kept (b := w.heap.size + 1) #[.int .i64 1, .string (bs t3), .bool false, .int .i64 0, .int .i64 0, .int .i64 0, .int .i64 0, .int .u32 0, .int .i64 0, .string ⟨#[]⟩, .slice none 0 0, .int .i64 k4, .int .u32 n4, .int .i64 o4, .string (bs m4), .slice va4 xl4.length vc4, .slice none 0 0, .slice none 0 0] hf5.kept (by omega)
        have hKb := setRow_in w5 (w.heap.size + 1) #[.int .i64 1, .string (bs t3), .bool false, .int .i64 0, .int .i64 0, .int .i64 0, .int .i64 0, .int .u32 0, .int .i64 0, .string ⟨#[]⟩, .slice none 0 0, .int .i64 k4, .int .u32 n4, .int .i64 o4, .string (bs m4), .slice va4 xl4.length vc4, .slice none 0 0, .slice none 0 0]
        generalize World.setRow _ _ _ = W at hEn hKw hKb ⊢
        refine bodyPost_ret_by (results_row Tryz.results99 rfl (load_stmt hEn rfl)) rfl ?_
        refine .ofOk (x := Sm.mk 1 t3 false 0 0 0 (.mk 0 0 0 [] []) (.mk k4 n4 o4 m4 xl4) [] []) (l := []) (by simp only [HSP.out, HR3.out, HR4.out, HR5.out, Res.bind_ok]) hKw (hf5.rs.keep hKb (fun k e => by omega) (by omega)) ⟨_, rfl, ?_⟩
        have go : Goes w5 W (fun b => w.heap.size + 2 < b) (fun b => w.heap.size ≤ b) := fun b hb hl => ⟨by omega, hKb.block b hl (by omega)⟩
        rw [smC_mk]
        exact ⟨none, 0, va4, vc4, none, 0, none, 0, rfl, Nat.le_refl _, hvc4, Nat.le_refl _, Nat.le_refl _, (by rw [exR]; trivial), exR_mono go q4_5, (by rw [smR]; trivial), (by rw [smR]; trivial)⟩
end Go.Proofs.YtbpdhegfdmppgaaGreatDoor

/- CONTRACT of readStmt at a list that begins with 'set', where stmts' holds of smaller nodes. -/
namespace Go.Proofs.YtbpdhegfdmppgaaGreatDoor
open Go.ChangeShapes Go.WideShapes Go.ChangeAt Go.RowKit

set_option maxHeartbeats 12800000 in
set_option maxRecDepth 20000 in
theorem stmt_set
    {m B : Nat} {w : World} {r : Nat} {l : List Nd} {p : Int} (il : Bool) (wd : List UInt8) (ks : List Nd) (q : Int) (a : Option Addr) (c : Nat) (_hS : StmtsN m) (h : Rs B w r l p) (_hs : szL l ≤ m) (ht : rdText (.mk il wd ks q) = .ok [115, 101, 116]) :
    Calls Tryz.prog 99 #[.agg #[.bool il, .string (bs wd), .slice a ks.length c, .int .i64 q], .pointer (some ⟨r, 0, none⟩)] w (Takes SmV B w r p ((rdSt p (.mk il wd ks q :: l)).bind fun x => .ok (x, []))) := by
  have hlt := h.lt
  have hB := h.own
  have HT : Hid (rdText (.mk il wd ks q) = .ok [115, 101, 116]) := ht
  have HSP : Hid _ := st_set (p := p) (r := l) ht
  have hts : (bs [115, 101, 116]).toList = [115, 101, 116] := by rw [ByteArray.toList_eq, bs_list]
  clear ht
  cases hr3 : rdBy rdNameOf p l with
  | bad x y =>
    have HR3 : Hid (rdBy rdNameOf p l = .bad x y) := hr3
    clear hr3
    go_enter Tryz.func99, Tryz.ntmps99
    go_wp2_with (go_at_call 94; refine (text_bs il wd ks q _ _ _).mono ?_; rw [HT.out]; simp only [endOf, sval]; rintro e w2 ⟨rfl, hb2⟩; have hf2 := (Rg.start3 h 110 _ #[.int .i64 0, .string ⟨#[]⟩, .bool false, .int .i64 0, .int .i64 0, .int .i64 0, .int .i64 0, .int .u32 0, .int .i64 0, .string ⟨#[]⟩, .slice none 0 0, .int .i64 0, .int .u32 0, .int .i64 0, .string ⟨#[]⟩, .slice none 0 0, .slice none 0 0, .slice none 0 0] #[.int .i64 0, .string ⟨#[]⟩, .bool false, .int .i64 0, .int .i64 0, .int .i64 0, .int .i64 0, .int .u32 0, .int .i64 0, .string ⟨#[]⟩, .slice none 0 0, .int .i64 0, .int .u32 0, .int .i64 0, .string ⟨#[]⟩, .slice none 0 0, .slice none 0 0, .slice none 0 0]).below hb2; have c2 := hf2.cell; have z2 := hf2.free; have s2 := hf2.lt; have rc2 := hf2.rcell; have rz2 := hf2.rfree; have rs2 := hf2.rlt; have hg2 := (hf2.set 0 (.int .i64 3) (xc' := #[.int .i64 3, .string ⟨#[]⟩, .bool false, .int .i64 0, .int .i64 0, .int .i64 0, .int .i64 0, .int .u32 0, .int .i64 0, .string ⟨#[]⟩, .slice none 0 0, .int .i64 0, .int .u32 0, .int .i64 0, .string ⟨#[]⟩, .slice none 0 0, .slice none 0 0, .slice none 0 0]) rfl); have fg2 := ((Far.refl (w.heap.size + 2) w2).set 0 (.int .i64 3)))
    go_wp2_with (go_at_call 58; refine (name_tk hg2.rs).mono ?_; rintro e w3 hG3; obtain rfl := hG3.bad _ _ HR3.out)
    exact ⟨rfl, .ofBad (by simp only [HSP.out, HR3.out, Res.bind_bad]) (hg2.kept.trans hG3.kept)⟩
  | ok y3 =>
    obtain ⟨t3, l3⟩ := y3
    have HR3 : Hid (rdBy rdNameOf p l = .ok (t3, l3)) := hr3
    have hsz3 := (rdBy_sz hr3).1
    clear hr3
    cases hr4 : rdBy rdE p l3 with
    | bad x y =>
      have HR4 : Hid (rdBy rdE p l3 = .bad x y) := hr4
      clear hr4
      go_enter Tryz.func99, Tryz.ntmps99
      go_wp2_with (go_at_call 94; refine (text_bs il wd ks q _ _ _).mono ?_; rw [HT.out]; simp only [endOf, sval]; rintro e w2 ⟨rfl, hb2⟩; have hf2 := (Rg.start3 h 110 _ #[.int .i64 0, .string ⟨#[]⟩, .bool false, .int .i64 0, .int .i64 0, .int .i64 0, .int .i64 0, .int .u32 0, .int .i64 0, .string ⟨#[]⟩, .slice none 0 0, .int .i64 0, .int .u32 0, .int .i64 0, .string ⟨#[]⟩, .slice none 0 0, .slice none 0 0, .slice none 0 0] #[.int .i64 0, .string ⟨#[]⟩, .bool false, .int .i64 0, .int .i64 0, .int .i64 0, .int .i64 0, .int .u32 0, .int .i64 0, .string ⟨#[]⟩, .slice none 0 0, .int .i64 0, .int .u32 0, .int .i64 0, .string ⟨#[]⟩, .slice none 0 0, .slice none 0 0, .slice none 0 0]).below hb2; have c2 := hf2.cell; have z2 := hf2.free; have s2 := hf2.lt; have rc2 := hf2.rcell; have rz2 := hf2.rfree; have rs2 := hf2.rlt; have hg2 := (hf2.set 0 (.int .i64 3) (xc' := #[.int .i64 3, .string ⟨#[]⟩, .bool false, .int .i64 0, .int .i64 0, .int .i64 0, .int .i64 0, .int .u32 0, .int .i64 0, .string ⟨#[]⟩, .slice none 0 0, .int .i64 0, .int .u32 0, .int .i64 0, .string ⟨#[]⟩, .slice none 0 0, .slice none 0 0, .slice none 0 0]) rfl); have fg2 := ((Far.refl (w.heap.size + 2) w2).set 0 (.int .i64 3)))
      go_wp2_with (go_at_call 58; refine (name_tk hg2.rs).mono ?_; rintro e w3 hG3; obtain ⟨hRs3, v3, rfl, rfl⟩ := hG3.ok _ _ HR3.out; have hf3 := hg2.step hG3.kept hRs3; clear c2 z2 rc2 rz2; have c3 := hf3.cell; have z3 := hf3.free; have s3 := hf3.lt; have rc3 := hf3.rcell; have rz3 := hf3.rfree; have rs3 := hf3.rlt; have far3 : Far _ w2 w3 := fg2.kept hG3.kept (by omega); have hg3 := (hf3.set 1 (.string (bs t3)) (xc' := #[.int .i64 3, .string (bs t3), .bool false, .int .i64 0, .int .i64 0, .int .i64 0, .int .i64 0, .int .u32 0, .int .i64 0, .string ⟨#[]⟩, .slice none 0 0, .int .i64 0, .int .u32 0, .int .i64 0, .string ⟨#[]⟩, .slice none 0 0, .slice none 0 0, .slice none 0 0]) rfl); have fg3 := ((Far.refl (w.heap.size + 2) w3).set 1 (.string (bs t3))); clear hg2)
      go_wp2_with (go_at_call 98; refine (expr_tk hg3.rs).mono ?_; rintro e w4 hG4; obtain rfl := hG4.bad _ _ HR4.out)
      exact ⟨rfl, .ofBad (by simp only [HSP.out, HR3.out, HR4.out, Res.bind_ok, Res.bind_bad]) (hg3.kept.trans hG4.kept)⟩
    | ok y4 =>
      obtain ⟨⟨k4, n4, o4, m4, xl4⟩, l4⟩ := y4
      have HR4 : Hid (rdBy rdE p l3 = .ok (.mk k4 n4 o4 m4 xl4, l4)) := hr4
      have hsz4 := (rdBy_sz hr4).1
      clear hr4
      cases hr5 : ((rdEnd l4).bind fun y => Res.ok (y, ([] : List Nd))) with
      | bad x y =>
        have HR5 : Hid (((rdEnd l4).bind fun y => Res.ok (y, ([] : List Nd))) = .bad x y) := hr5
        clear hr5
        go_enter Tryz.func99, Tryz.ntmps99
        go_wp2_with (go_at_call 94; refine (text_bs il wd ks q _ _ _).mono ?_; rw [HT.out]; simp only [endOf, sval]; rintro e w2 ⟨rfl, hb2⟩; have hf2 := (Rg.start3 h 110 _ #[.int .i64 0, .string ⟨#[]⟩, .bool false, .int .i64 0, .int .i64 0, .int .i64 0, .int .i64 0, .int .u32 0, .int .i64 0, .string ⟨#[]⟩, .slice none 0 0, .int .i64 0, .int .u32 0, .int .i64 0, .string ⟨#[]⟩, .slice none 0 0, .slice none 0 0, .slice none 0 0] #[.int .i64 0, .string ⟨#[]⟩, .bool false, .int .i64 0, .int .i64 0, .int .i64 0, .int .i64 0, .int .u32 0, .int .i64 0, .string ⟨#[]⟩, .slice none 0 0, .int .i64 0, .int .u32 0, .int .i64 0, .string ⟨#[]⟩, .slice none 0 0, .slice none 0 0, .slice none 0 0]).below hb2; have c2 := hf2.cell; have z2 := hf2.free; have s2 := hf2.lt; have rc2 := hf2.rcell; have rz2 := hf2.rfree; have rs2 := hf2.rlt; have hg2 := (hf2.set 0 (.int .i64 3) (xc' := #[.int .i64 3, .string ⟨#[]⟩, .bool false, .int .i64 0, .int .i64 0, .int .i64 0, .int .i64 0, .int .u32 0, .int .i64 0, .string ⟨#[]⟩, .slice none 0 0, .int .i64 0, .int .u32 0, .int .i64 0, .string ⟨#[]⟩, .slice none 0 0, .slice none 0 0, .slice none 0 0]) rfl); have fg2 := ((Far.refl (w.heap.size + 2) w2).set 0 (.int .i64 3)))
        go_wp2_with (go_at_call 58; refine (name_tk hg2.rs).mono ?_; rintro e w3 hG3; obtain ⟨hRs3, v3, rfl, rfl⟩ := hG3.ok _ _ HR3.out; have hf3 := hg2.step hG3.kept hRs3; clear c2 z2 rc2 rz2; have c3 := hf3.cell; have z3 := hf3.free; have s3 := hf3.lt; have rc3 := hf3.rcell; have rz3 := hf3.rfree; have rs3 := hf3.rlt; have far3 : Far _ w2 w3 := fg2.kept hG3.kept (by omega); have hg3 := (hf3.set 1 (.string (bs t3)) (xc' := #[.int .i64 3, .string (bs t3), .bool false, .int .i64 0, .int .i64 0, .int .i64 0, .int .i64 0, .int .u32 0, .int .i64 0, .string ⟨#[]⟩, .slice none 0 0, .int .i64 0, .int .u32 0, .int .i64 0, .string ⟨#[]⟩, .slice none 0 0, .slice none 0 0, .slice none 0 0]) rfl); have fg3 := ((Far.refl (w.heap.size + 2) w3).set 1 (.string (bs t3))); clear hg2)
        go_wp2_with (go_at_call 98; refine (expr_tk hg3.rs).mono ?_; rintro e w4 hG4; obtain ⟨hRs4, v4, rfl, va4, vc4, rfl, hvc4, hvr4⟩ := hG4.ok _ _ HR4.out; have hf4 := hg3.step hG4.kept hRs4; clear c3 z3 rc3 rz3; have c4 := hf4.cell; have z4 := hf4.free; have s4 := hf4.lt; have rc4 := hf4.rcell; have rz4 := hf4.rfree; have rs4 := hf4.rlt; have far4 : Far _ w3 w4 := fg3.kept hG4.kept (by omega); have q4_4 := exR_mono (T := fun b => w.heap.size + 2 < b) (fun b hb hl => ⟨Nat.lt_of_lt_of_le hg3.lt hb, rfl⟩) hvr4; have hg4 := (((((hf4.set 11 (.int .i64 k4) (xc' := #[.int .i64 3, .string (bs t3), .bool false, .int .i64 0, .int .i64 0, .int .i64 0, .int .i64 0, .int .u32 0, .int .i64 0, .string ⟨#[]⟩, .slice none 0 0, .int .i64 k4, .int .u32 0, .int .i64 0, .string ⟨#[]⟩, .slice none 0 0, .slice none 0 0, .slice none 0 0]) rfl).set 12 (.int .u32 n4) (xc' := #[.int .i64 3, .string (bs t3), .bool false, .int .i64 0, .int .i64 0, .int .i64 0, .int .i64 0, .int .u32 0, .int .i64 0, .string ⟨#[]⟩, .slice none 0 0, .int .i64 k4, .int .u32 n4, .int .i64 0, .string ⟨#[]⟩, .slice none 0 0, .slice none 0 0, .slice none 0 0]) rfl).set 13 (.int .i64 o4) (xc' := #[.int .i64 3, .string (bs t3), .bool false, .int .i64 0, .int .i64 0, .int .i64 0, .int .i64 0, .int .u32 0, .int .i64 0, .string ⟨#[]⟩, .slice none 0 0, .int .i64 k4, .int .u32 n4, .int .i64 o4, .string ⟨#[]⟩, .slice none 0 0, .slice none 0 0, .slice none 0 0]) rfl).set 14 (.string (bs m4)) (xc' := #[.int .i64 3, .string (bs t3), .bool false, .int .i64 0, .int .i64 0, .int .i64 0, .int .i64 0, .int .u32 0, .int .i64 0, .string ⟨#[]⟩, .slice none 0 0, .int .i64 k4, .int .u32 n4, .int .i64 o4, .string (bs m4), .slice none 0 0, .slice none 0 0, .slice none 0 0]) rfl).set 15 (.slice va4 xl4.length vc4) (xc' := #[.int .i64 3, .string (bs t3), .bool false, .int .i64 0, .int .i64 0, .int .i64 0, .int .i64 0, .int .u32 0, .int .i64 0, .string ⟨#[]⟩, .slice none 0 0, .int .i64 k4, .int .u32 n4, .int .i64 o4, .string (bs m4), .slice va4 xl4.length vc4, .slice none 0 0, .slice none 0 0]) rfl); have fg4 := ((((((Far.refl (w.heap.size + 2) w4).set 11 (.int .i64 k4)).set 12 (.int .u32 n4)).set 13 (.int .i64 o4)).set 14 (.string (bs m4))).set 15 (.slice va4 xl4.length vc4)); clear hg3)
        go_wp2_with (go_at_call 59; refine (end_tk hg4.rs).mono ?_; rintro e w5 hG5; obtain rfl := hG5.bad _ _ HR5.out)
        exact ⟨rfl, .ofBad (by simp only [HSP.out, HR3.out, HR4.out, HR5.out, Res.bind_ok, Res.bind_bad]) (hg4.kept.trans hG5.kept)⟩
      | ok y5 =>
        obtain ⟨u5, l5⟩ := y5
        have HR5 : Hid (((rdEnd l4).bind fun y => Res.ok (y, ([] : List Nd))) = .ok (u5, l5)) := hr5
        obtain rfl := end_nil hr5
        clear hr5
        go_enter Tryz.func99, Tryz.ntmps99
        go_wp2_with (go_at_call 94; refine (text_bs il wd ks q _ _ _).mono ?_; rw [HT.out]; simp only [endOf, sval]; rintro e w2 ⟨rfl, hb2⟩; have hf2 := (Rg.start3 h 110 _ #[.int .i64 0, .string ⟨#[]⟩, .bool false, .int .i64 0, .int .i64 0, .int .i64 0, .int .i64 0, .int .u32 0, .int .i64 0, .string ⟨#[]⟩, .slice none 0 0, .int .i64 0, .int .u32 0, .int .i64 0, .string ⟨#[]⟩, .slice none 0 0, .slice none 0 0, .slice none 0 0] #[.int .i64 0, .string ⟨#[]⟩, .bool false, .int .i64 0, .int .i64 0, .int .i64 0, .int .i64 0, .int .u32 0, .int .i64 0, .string ⟨#[]⟩, .slice none 0 0, .int .i64 0, .int .u32 0, .int .i64 0, .string ⟨#[]⟩, .slice none 0 0, .slice none 0 0, .slice none 0 0]).below hb2; have c2 := hf2.cell; have z2 := hf2.free; have s2 := hf2.lt; have rc2 := hf2.rcell; have rz2 := hf2.rfree; have rs2 := hf2.rlt; have hg2 := (hf2.set 0 (.int .i64 3) (xc' := #[.int .i64 3, .string ⟨#[]⟩, .bool false, .int .i64 0, .int .i64 0, .int .i64 0, .int .i64 0, .int .u32 0, .int .i64 0, .string ⟨#[]⟩, .slice none 0 0, .int .i64 0, .int .u32 0, .int .i64 0, .string ⟨#[]⟩, .slice none 0 0, .slice none 0 0, .slice none 0 0]) rfl); have fg2 := ((Far.refl (w.heap.size + 2) w2).set 0 (.int .i64 3)))
        go_wp2_with (go_at_call 58; refine (name_tk hg2.rs).mono ?_; rintro e w3 hG3; obtain ⟨hRs3, v3, rfl, rfl⟩ := hG3.ok _ _ HR3.out; have hf3 := hg2.step hG3.kept hRs3; clear c2 z2 rc2 rz2; have c3 := hf3.cell; have z3 := hf3.free; have s3 := hf3.lt; have rc3 := hf3.rcell; have rz3 := hf3.rfree; have rs3 := hf3.rlt; have far3 : Far _ w2 w3 := fg2.kept hG3.kept (by omega); have hg3 := (hf3.set 1 (.string (bs t3)) (xc' := #[.int .i64 3, .string (bs t3), .bool false, .int .i64 0, .int .i64 0, .int .i64 0, .int .i64 0, .int .u32 0, .int .i64 0, .string ⟨#[]⟩, .slice none 0 0, .int .i64 0, .int .u32 0, .int .i64 0, .string ⟨#[]⟩, .slice none 0 0, .slice none 0 0, .slice none 0 0]) rfl); have fg3 := ((Far.refl (w.heap.size + 2) w3).set 1 (.string (bs t3))); clear hg2)
        go_wp2_with (go_at_call 98; refine (expr_tk hg3.rs).mono ?_; rintro e w4 hG4; obtain ⟨hRs4, v4, rfl, va4, vc4, rfl, hvc4, hvr4⟩ := hG4.ok _ _ HR4.out; have hf4 := hg3.step hG4.kept hRs4; clear c3 z3 rc3 rz3; have c4 := hf4.cell; have z4 := hf4.free; have s4 := hf4.lt; have rc4 := hf4.rcell; have rz4 := hf4.rfree; have rs4 := hf4.rlt; have far4 : Far _ w3 w4 := fg3.kept hG4.kept (by omega); have q4_4 := exR_mono (T := fun b => w.heap.size + 2 < b) (fun b hb hl => ⟨Nat.lt_of_lt_of_le hg3.lt hb, rfl⟩) hvr4; have hg4 := (((((hf4.set 11 (.int .i64 k4) (xc' := #[.int .i64 3, .string (bs t3), .bool false, .int .i64 0, .int .i64 0, .int .i64 0, .int .i64 0, .int .u32 0, .int .i64 0, .string ⟨#[]⟩, .slice none 0 0, .int .i64 k4, .int .u32 0, .int .i64 0, .string ⟨#[]⟩, .slice none 0 0, .slice none 0 0, .slice none 0 0]) rfl).set 12 (.int .u32 n4) (xc' := #[.int .i64 3, .string (bs t3), .bool false, .int .i64 0, .int .i64 0, .int .i64 0, .int .i64 0, .int .u32 0, .int .i64 0, .string ⟨#[]⟩, .slice none 0 0, .int .i64 k4, .int .u32 n4, .int .i64 0, .string ⟨#[]⟩, .slice none 0 0, .slice none 0 0, .slice none 0 0]) rfl).set 13 (.int .i64 o4) (xc' := #[.int .i64 3, .string (bs t3), .bool false, .int .i64 0, .int .i64 0, .int .i64 0, .int .i64 0, .int .u32 0, .int .i64 0, .string ⟨#[]⟩, .slice none 0 0, .int .i64 k4, .int .u32 n4, .int .i64 o4, .string ⟨#[]⟩, .slice none 0 0, .slice none 0 0, .slice none 0 0]) rfl).set 14 (.string (bs m4)) (xc' := #[.int .i64 3, .string (bs t3), .bool false, .int .i64 0, .int .i64 0, .int .i64 0, .int .i64 0, .int .u32 0, .int .i64 0, .string ⟨#[]⟩, .slice none 0 0, .int .i64 k4, .int .u32 n4, .int .i64 o4, .string (bs m4), .slice none 0 0, .slice none 0 0, .slice none 0 0]) rfl).set 15 (.slice va4 xl4.length vc4) (xc' := #[.int .i64 3, .string (bs t3), .bool false, .int .i64 0, .int .i64 0, .int .i64 0, .int .i64 0, .int .u32 0, .int .i64 0, .string ⟨#[]⟩, .slice none 0 0, .int .i64 k4, .int .u32 n4, .int .i64 o4, .string (bs m4), .slice va4 xl4.length vc4, .slice none 0 0, .slice none 0 0]) rfl); have fg4 := ((((((Far.refl (w.heap.size + 2) w4).set 11 (.int .i64 k4)).set 12 (.int .u32 n4)).set 13 (.int .i64 o4)).set 14 (.string (bs m4))).set 15 (.slice va4 xl4.length vc4)); clear hg3)
        go_wp2_with (first | (go_at_call 59; refine (end_tk hg4.rs).mono ?_; rintro e w5 hG5; obtain ⟨hRs5, v5, rfl, rfl⟩ := hG5.ok _ _ HR5.out; have hf5 := hg4.step hG5.kept hRs5; clear c4 z4 rc4 rz4; have far5 : Far _ w4 w5 := fg4.kept hG5.kept (by omega); have q4_5 := exR_mono far5.goes q4_4) | (refine wpList_load_row rfl 110 (.tmp 5) rfl (w.heap.size + 2) rfl 110 #[.int .i64 3, .string (bs t3), .bool false, .int .i64 0, .int .i64 0, .int .i64 0, .int .i64 0, .int .u32 0, .int .i64 0, .string ⟨#[]⟩, .slice none 0 0, .int .i64 k4, .int .u32 n4, .int .i64 o4, .string (bs m4), .slice va4 xl4.length vc4, .slice none 0 0, .slice none 0 0] (0, 0) _ hf5.x Tryz.underlying110 rfl info_stmt ?_) | (refine wpList_store_row rfl 110 (.tmp 4) _ rfl (w.heap.size + 1) #[.int .i64 3, .string (bs t3), .bool false, .int .i64 0, .int .i64 0, .int .i64 0, .int .i64 0, .int .u32 0, .int .i64 0, .string ⟨#[]⟩, .slice none 0 0, .int .i64 k4, .int .u32 n4, .int .i64 o4, .string (bs m4), .slice va4 xl4.length vc4, .slice none 0 0, .slice none 0 0] rfl rfl 110 #[.int .i64 0, .string ⟨#[]⟩, .bool false, .int .i64 0, .int .i64 0, .int .i64 0, .int .i64 0, .int .u32 0, .int .i64 0, .string ⟨#[]⟩, .slice none 0 0, .int .i64 0, .int .u32 0, .int .i64 0, .string ⟨#[]⟩, .slice none 0 0, .slice none 0 0, .slice none 0 0] hf5.res info_stmt rfl (by simp [Value.oneCell']) ?_))
        have hEn := setRow_at (cs := #[.int .i64 3, .string (bs t3), .bool false, .int .i64 0, .int .i64 0, .int .i64 0, .int .i64 0, .int .u32 0, .int .i64 0, .string ⟨#[]⟩, .slice none 0 0, .int .i64 k4, .int .u32 n4, .int .i64 o4, .string (bs m4), .slice va4 xl4.length vc4, .slice none 0 0, .slice none 0 0]) hf5.res
        have hKw := setRow_kept (b := w.heap.size + 1) #[.int .i64 3, .string (bs t3), .bool false, .int .i64 0, .int .i64 0, .int .i64 0, .int .i64 0, .int .u32 0, .int .i64 0, .string ⟨#[]⟩, .slice none 0 0, .int .i64 k4, .int .u32 n4, .int .i64 o4, .string (bs m4), .slice va4 xl4.length vc4, .slice none 0 0, .slice none 0 0] hf5.kept (by omega)
        have hKb := setRow_in w5 (w.heap.size + 1) #[.int .i64 3, .string (bs t3), .bool false, .int .i64 0, .int .i64 0, .int .i64 0, .int .i64 0, .int .u32 0, .int .i64 0, .string ⟨#[]⟩, .slice none 0 0, .int .i64 k4, .int .u32 n4, .int .i64 o4, .string (bs m4), .slice va4 xl4.length vc4, .slice none 0 0, .slice none 0 0]
        generalize World.setRow _ _ _ = W at hEn hKw hKb ⊢
        refine bodyPost_ret_by (results_row Tryz.results99 rfl (load_stmt hEn rfl)) rfl ?_
        refine .ofOk (x := Sm.mk 3 t3 false 0 0 0 (.mk 0 0 0 [] []) (.mk k4 n4 o4 m4 xl4) [] []) (l := []) (by simp only [HSP.out, HR3.out, HR4.out, HR5.out, Res.bind_ok]) hKw (hf5.rs.keep hKb (fun k e => by omega) (by omega)) ⟨_, rfl, ?_⟩
        have go : Goes w5 W (fun b => w.heap.size + 2 < b) (fun b => w.heap.size ≤ b) := fun b hb hl => ⟨by omega, hKb.block b hl (by omega)⟩
        rw [smC_mk]
        exact ⟨none, 0, va4, vc4, none, 0, none, 0, rfl, Nat.le_refl _, hvc4, Nat.le_refl _, Nat.le_refl _, (by rw [exR]; trivial), exR_mono go q4_5, (by rw [smR]; trivial), (by rw [smR]; trivial)⟩
end Go.Proofs.YtbpdhegfdmppgaaGreatDoor

/- CONTRACT of readStmt at a list that begins with 'new', where stmts' holds of smaller nodes. -/
namespace Go.Proofs.YtbpdhegfdmppgaaGreatDoor
open Go.ChangeShapes Go.WideShapes Go.ChangeAt Go.RowKit

set_option maxHeartbeats 12800000 in
set_option maxRecDepth 20000 in
theorem stmt_new
    {m B : Nat} {w : World} {r : Nat} {l : List Nd} {p : Int} (il : Bool) (wd : List UInt8) (ks : List Nd) (q : Int) (a : Option Addr) (c : Nat) (_hS : StmtsN m) (h : Rs B w r l p) (_hs : szL l ≤ m) (ht : rdText (.mk il wd ks q) = .ok [110, 101, 119]) :
    Calls Tryz.prog 99 #[.agg #[.bool il, .string (bs wd), .slice a ks.length c, .int .i64 q], .pointer (some ⟨r, 0, none⟩)] w (Takes SmV B w r p ((rdSt p (.mk il wd ks q :: l)).bind fun x => .ok (x, []))) := by
  have hlt := h.lt
  have hB := h.own
  have HT : Hid (rdText (.mk il wd ks q) = .ok [110, 101, 119]) := ht
  have HSP : Hid _ := st_new (p := p) (r := l) ht
  have hts : (bs [110, 101, 119]).toList = [110, 101, 119] := by rw [ByteArray.toList_eq, bs_list]
  clear ht
  cases hr3 : rdBy rdNameOf p l with
  | bad x y =>
    have HR3 : Hid (rdBy rdNameOf p l = .bad x y) := hr3
    clear hr3
    go_enter Tryz.func99, Tryz.ntmps99
    go_wp2_with (go_at_call 94; refine (text_bs il wd ks q _ _ _).mono ?_; rw [HT.out]; simp only [endOf, sval]; rintro e w2 ⟨rfl, hb2⟩; have hf2 := (Rg.start3 h 110 _ #[.int .i64 0, .string ⟨#[]⟩, .bool false, .int .i64 0, .int .i64 0, .int .i64 0, .int .i64 0, .int .u32 0, .int .i64 0, .string ⟨#[]⟩, .slice none 0 0, .int .i64 0, .int .u32 0, .int .i64 0, .string ⟨#[]⟩, .slice none 0 0, .slice none 0 0, .slice none 0 0] #[.int .i64 0, .string ⟨#[]⟩, .bool false, .int .i64 0, .int .i64 0, .int .i64 0, .int .i64 0, .int .u32 0, .int .i64 0, .string ⟨#[]⟩, .slice none 0 0, .int .i64 0, .int .u32 0, .int .i64 0, .string ⟨#[]⟩, .slice none 0 0, .slice none 0 0, .slice none 0 0]).below hb2; have c2 := hf2.cell; have z2 := hf2.free; have s2 := hf2.lt; have rc2 := hf2.rcell; have rz2 := hf2.rfree; have rs2 := hf2.rlt; have hg2 := (hf2.set 0 (.int .i64 2) (xc' := #[.int .i64 2, .string ⟨#[]⟩, .bool false, .int .i64 0, .int .i64 0, .int .i64 0, .int .i64 0, .int .u32 0, .int .i64 0, .string ⟨#[]⟩, .slice none 0 0, .int .i64 0, .int .u32 0, .int .i64 0, .string ⟨#[]⟩, .slice none 0 0, .slice none 0 0, .slice none 0 0]) rfl); have fg2 := ((Far.refl (w.heap.size + 2) w2).set 0 (.int .i64 2)))
    go_wp2_with (go_at_call 58; refine (name_tk hg2.rs).mono ?_; rintro e w3 hG3; obtain rfl := hG3.bad _ _ HR3.out)
    exact ⟨rfl, .ofBad (by simp only [HSP.out, HR3.out, Res.bind_bad]) (hg2.kept.trans hG3.kept)⟩
  | ok y3 =>
    obtain ⟨t3, l3⟩ := y3
    have HR3 : Hid (rdBy rdNameOf p l = .ok (t3, l3)) := hr3
    have hsz3 := (rdBy_sz hr3).1
    clear hr3
    cases hr4 : rdBy rdLabelOf p l3 with
    | bad x y =>
      have HR4 : Hid (rdBy rdLabelOf p l3 = .bad x y) := hr4
      clear hr4
      go_enter Tryz.func99, Tryz.ntmps99
      go_wp2_with (go_at_call 94; refine (text_bs il wd ks q _ _ _).mono ?_; rw [HT.out]; simp only [endOf, sval]; rintro e w2 ⟨rfl, hb2⟩; have hf2 := (Rg.start3 h 110 _ #[.int .i64 0, .string ⟨#[]⟩, .bool false, .int .i64 0, .int .i64 0, .int .i64 0, .int .i64 0, .int .u32 0, .int .i64 0, .string ⟨#[]⟩, .slice none 0 0, .int .i64 0, .int .u32 0, .int .i64 0, .string ⟨#[]⟩, .slice none 0 0, .slice none 0 0, .slice none 0 0] #[.int .i64 0, .string ⟨#[]⟩, .bool false, .int .i64 0, .int .i64 0, .int .i64 0, .int .i64 0, .int .u32 0, .int .i64 0, .string ⟨#[]⟩, .slice none 0 0, .int .i64 0, .int .u32 0, .int .i64 0, .string ⟨#[]⟩, .slice none 0 0, .slice none 0 0, .slice none 0 0]).below hb2; have c2 := hf2.cell; have z2 := hf2.free; have s2 := hf2.lt; have rc2 := hf2.rcell; have rz2 := hf2.rfree; have rs2 := hf2.rlt; have hg2 := (hf2.set 0 (.int .i64 2) (xc' := #[.int .i64 2, .string ⟨#[]⟩, .bool false, .int .i64 0, .int .i64 0, .int .i64 0, .int .i64 0, .int .u32 0, .int .i64 0, .string ⟨#[]⟩, .slice none 0 0, .int .i64 0, .int .u32 0, .int .i64 0, .string ⟨#[]⟩, .slice none 0 0, .slice none 0 0, .slice none 0 0]) rfl); have fg2 := ((Far.refl (w.heap.size + 2) w2).set 0 (.int .i64 2)))
      go_wp2_with (go_at_call 58; refine (name_tk hg2.rs).mono ?_; rintro e w3 hG3; obtain ⟨hRs3, v3, rfl, rfl⟩ := hG3.ok _ _ HR3.out; have hf3 := hg2.step hG3.kept hRs3; clear c2 z2 rc2 rz2; have c3 := hf3.cell; have z3 := hf3.free; have s3 := hf3.lt; have rc3 := hf3.rcell; have rz3 := hf3.rfree; have rs3 := hf3.rlt; have far3 : Far _ w2 w3 := fg2.kept hG3.kept (by omega); have hg3 := (hf3.set 1 (.string (bs t3)) (xc' := #[.int .i64 2, .string (bs t3), .bool false, .int .i64 0, .int .i64 0, .int .i64 0, .int .i64 0, .int .u32 0, .int .i64 0, .string ⟨#[]⟩, .slice none 0 0, .int .i64 0, .int .u32 0, .int .i64 0, .string ⟨#[]⟩, .slice none 0 0, .slice none 0 0, .slice none 0 0]) rfl); have fg3 := ((Far.refl (w.heap.size + 2) w3).set 1 (.string (bs t3))); clear hg2)
      go_wp2_with (go_at_call 97; refine (label_tk hg3.rs).mono ?_; rintro e w4 hG4; obtain rfl := hG4.bad _ _ HR4.out)
      exact ⟨rfl, .ofBad (by simp only [HSP.out, HR3.out, HR4.out, Res.bind_ok, Res.bind_bad]) (hg3.kept.trans hG4.kept)⟩
    | ok y4 =>
      obtain ⟨t4, l4⟩ := y4
      have HR4 : Hid (rdBy rdLabelOf p l3 = .ok (t4, l4)) := hr4
      have hsz4 := (rdBy_sz hr4).1
      clear hr4
      cases hr5 : rdBy (rdWithinOf 1 16) p l4 with
      | bad x y =>
        have HR5 : Hid (rdBy (rdWithinOf 1 16) p l4 = .bad x y) := hr5
        clear hr5
        go_enter Tryz.func99, Tryz.ntmps99
        go_wp2_with (go_at_call 94; refine (text_bs il wd ks q _ _ _).mono ?_; rw [HT.out]; simp only [endOf, sval]; rintro e w2 ⟨rfl, hb2⟩; have hf2 := (Rg.start3 h 110 _ #[.int .i64 0, .string ⟨#[]⟩, .bool false, .int .i64 0, .int .i64 0, .int .i64 0, .int .i64 0, .int .u32 0, .int .i64 0, .string ⟨#[]⟩, .slice none 0 0, .int .i64 0, .int .u32 0, .int .i64 0, .string ⟨#[]⟩, .slice none 0 0, .slice none 0 0, .slice none 0 0] #[.int .i64 0, .string ⟨#[]⟩, .bool false, .int .i64 0, .int .i64 0, .int .i64 0, .int .i64 0, .int .u32 0, .int .i64 0, .string ⟨#[]⟩, .slice none 0 0, .int .i64 0, .int .u32 0, .int .i64 0, .string ⟨#[]⟩, .slice none 0 0, .slice none 0 0, .slice none 0 0]).below hb2; have c2 := hf2.cell; have z2 := hf2.free; have s2 := hf2.lt; have rc2 := hf2.rcell; have rz2 := hf2.rfree; have rs2 := hf2.rlt; have hg2 := (hf2.set 0 (.int .i64 2) (xc' := #[.int .i64 2, .string ⟨#[]⟩, .bool false, .int .i64 0, .int .i64 0, .int .i64 0, .int .i64 0, .int .u32 0, .int .i64 0, .string ⟨#[]⟩, .slice none 0 0, .int .i64 0, .int .u32 0, .int .i64 0, .string ⟨#[]⟩, .slice none 0 0, .slice none 0 0, .slice none 0 0]) rfl); have fg2 := ((Far.refl (w.heap.size + 2) w2).set 0 (.int .i64 2)))
        go_wp2_with (go_at_call 58; refine (name_tk hg2.rs).mono ?_; rintro e w3 hG3; obtain ⟨hRs3, v3, rfl, rfl⟩ := hG3.ok _ _ HR3.out; have hf3 := hg2.step hG3.kept hRs3; clear c2 z2 rc2 rz2; have c3 := hf3.cell; have z3 := hf3.free; have s3 := hf3.lt; have rc3 := hf3.rcell; have rz3 := hf3.rfree; have rs3 := hf3.rlt; have far3 : Far _ w2 w3 := fg2.kept hG3.kept (by omega); have hg3 := (hf3.set 1 (.string (bs t3)) (xc' := #[.int .i64 2, .string (bs t3), .bool false, .int .i64 0, .int .i64 0, .int .i64 0, .int .i64 0, .int .u32 0, .int .i64 0, .string ⟨#[]⟩, .slice none 0 0, .int .i64 0, .int .u32 0, .int .i64 0, .string ⟨#[]⟩, .slice none 0 0, .slice none 0 0, .slice none 0 0]) rfl); have fg3 := ((Far.refl (w.heap.size + 2) w3).set 1 (.string (bs t3))); clear hg2)
        go_wp2_with (go_at_call 97; refine (label_tk hg3.rs).mono ?_; rintro e w4 hG4; obtain ⟨hRs4, v4, rfl, rfl⟩ := hG4.ok _ _ HR4.out; have hf4 := hg3.step hG4.kept hRs4; clear c3 z3 rc3 rz3; have c4 := hf4.cell; have z4 := hf4.free; have s4 := hf4.lt; have rc4 := hf4.rcell; have rz4 := hf4.rfree; have rs4 := hf4.rlt; have far4 : Far _ w3 w4 := fg3.kept hG4.kept (by omega); have hg4 := (hf4.set 2 (.bool t4) (xc' := #[.int .i64 2, .string (bs t3), .bool t4, .int .i64 0, .int .i64 0, .int .i64 0, .int .i64 0, .int .u32 0, .int .i64 0, .string ⟨#[]⟩, .slice none 0 0, .int .i64 0, .int .u32 0, .int .i64 0, .string ⟨#[]⟩, .slice none 0 0, .slice none 0 0, .slice none 0 0]) rfl); have fg4 := ((Far.refl (w.heap.size + 2) w4).set 2 (.bool t4)); clear hg3)
        go_wp2_with (go_at_call 116; refine (within_tk 1 16 hg4.rs).mono ?_; rintro e w5 hG5; obtain rfl := hG5.bad _ _ HR5.out)
        exact ⟨rfl, .ofBad (by simp only [HSP.out, HR3.out, HR4.out, HR5.out, Res.bind_ok, Res.bind_bad]) (hg4.kept.trans hG5.kept)⟩
      | ok y5 =>
        obtain ⟨t5, l5⟩ := y5
        have HR5 : Hid (rdBy (rdWithinOf 1 16) p l4 = .ok (t5, l5)) := hr5
        have hsz5 := (rdBy_sz hr5).1
        clear hr5
        cases hr6 : ((rdEnd l5).bind fun y => Res.ok (y, ([] : List Nd))) with
        | bad x y =>
          have HR6 : Hid (((rdEnd l5).bind fun y => Res.ok (y, ([] : List Nd))) = .bad x y) := hr6
          clear hr6
          go_enter Tryz.func99, Tryz.ntmps99
          go_wp2_with (go_at_call 94; refine (text_bs il wd ks q _ _ _).mono ?_; rw [HT.out]; simp only [endOf, sval]; rintro e w2 ⟨rfl, hb2⟩; have hf2 := (Rg.start3 h 110 _ #[.int .i64 0, .string ⟨#[]⟩, .bool false, .int .i64 0, .int .i64 0, .int .i64 0, .int .i64 0, .int .u32 0, .int .i64 0, .string ⟨#[]⟩, .slice none 0 0, .int .i64 0, .int .u32 0, .int .i64 0, .string ⟨#[]⟩, .slice none 0 0, .slice none 0 0, .slice none 0 0] #[.int .i64 0, .string ⟨#[]⟩, .bool false, .int .i64 0, .int .i64 0, .int .i64 0, .int .i64 0, .int .u32 0, .int .i64 0, .string ⟨#[]⟩, .slice none 0 0, .int .i64 0, .int .u32 0, .int .i64 0, .string ⟨#[]⟩, .slice none 0 0, .slice none 0 0, .slice none 0 0]).below hb2; have c2 := hf2.cell; have z2 := hf2.free; have s2 := hf2.lt; have rc2 := hf2.rcell; have rz2 := hf2.rfree; have rs2 := hf2.rlt; have hg2 := (hf2.set 0 (.int .i64 2) (xc' := #[.int .i64 2, .string ⟨#[]⟩, .bool false, .int .i64 0, .int .i64 0, .int .i64 0, .int .i64 0, .int .u32 0, .int .i64 0, .string ⟨#[]⟩, .slice none 0 0, .int .i64 0, .int .u32 0, .int .i64 0, .string ⟨#[]⟩, .slice none 0 0, .slice none 0 0, .slice none 0 0]) rfl); have fg2 := ((Far.refl (w.heap.size + 2) w2).set 0 (.int .i64 2)))
          go_wp2_with (go_at_call 58; refine (name_tk hg2.rs).mono ?_; rintro e w3 hG3; obtain ⟨hRs3, v3, rfl, rfl⟩ := hG3.ok _ _ HR3.out; have hf3 := hg2.step hG3.kept hRs3; clear c2 z2 rc2 rz2; have c3 := hf3.cell; have z3 := hf3.free; have s3 := hf3.lt; have rc3 := hf3.rcell; have rz3 := hf3.rfree; have rs3 := hf3.rlt; have far3 : Far _ w2 w3 := fg2.kept hG3.kept (by omega); have hg3 := (hf3.set 1 (.string (bs t3)) (xc' := #[.int .i64 2, .string (bs t3), .bool false, .int .i64 0, .int .i64 0, .int .i64 0, .int .i64 0, .int .u32 0, .int .i64 0, .string ⟨#[]⟩, .slice none 0 0, .int .i64 0, .int .u32 0, .int .i64 0, .string ⟨#[]⟩, .slice none 0 0, .slice none 0 0, .slice none 0 0]) rfl); have fg3 := ((Far.refl (w.heap.size + 2) w3).set 1 (.string (bs t3))); clear hg2)
          go_wp2_with (go_at_call 97; refine (label_tk hg3.rs).mono ?_; rintro e w4 hG4; obtain ⟨hRs4, v4, rfl, rfl⟩ := hG4.ok _ _ HR4.out; have hf4 := hg3.step hG4.kept hRs4; clear c3 z3 rc3 rz3; have c4 := hf4.cell; have z4 := hf4.free; have s4 := hf4.lt; have rc4 := hf4.rcell; have rz4 := hf4.rfree; have rs4 := hf4.rlt; have far4 : Far _ w3 w4 := fg3.kept hG4.kept (by omega); have hg4 := (hf4.set 2 (.bool t4) (xc' := #[.int .i64 2, .string (bs t3), .bool t4, .int .i64 0, .int .i64 0, .int .i64 0, .int .i64 0, .int .u32 0, .int .i64 0, .string ⟨#[]⟩, .slice none 0 0, .int .i64 0, .int .u32 0, .int .i64 0, .string ⟨#[]⟩, .slice none 0 0, .slice none 0 0, .slice none 0 0]) rfl); have fg4 := ((Far.refl (w.heap.size + 2) w4).set 2 (.bool t4)); clear hg3)
          go_wp2_with (go_at_call 116; refine (within_tk 1 16 hg4.rs).mono ?_; rintro e w5 hG5; obtain ⟨hRs5, v5, rfl, rfl⟩ := hG5.ok _ _ HR5.out; have hf5 := hg4.step hG5.kept hRs5; clear c4 z4 rc4 rz4; have c5 := hf5.cell; have z5 := hf5.free; have s5 := hf5.lt; have rc5 := hf5.rcell; have rz5 := hf5.rfree; have rs5 := hf5.rlt; have far5 : Far _ w4 w5 := fg4.kept hG5.kept (by omega); have hg5 := (hf5.set 3 (.int .i64 (t5 : Int)) (xc' := #[.int .i64 2, .string (bs t3), .bool t4, .int .i64 (t5 : Int), .int .i64 0, .int .i64 0, .int .i64 0, .int .u32 0, .int .i64 0, .string ⟨#[]⟩, .slice none 0 0, .int .i64 0, .int .u32 0, .int .i64 0, .string ⟨#[]⟩, .slice none 0 0, .slice none 0 0, .slice none 0 0]) rfl); have fg5 := ((Far.refl (w.heap.size + 2) w5).set 3 (.int .i64 (t5 : Int))); clear hg4)
          go_wp2_with (go_at_call 59; refine (end_tk hg5.rs).mono ?_; rintro e w6 hG6; obtain rfl := hG6.bad _ _ HR6.out)
          exact ⟨rfl, .ofBad (by simp only [HSP.out, HR3.out, HR4.out, HR5.out, HR6.out, Res.bind_ok, Res.bind_bad]) (hg5.kept.trans hG6.kept)⟩
        | ok y6 =>
          obtain ⟨u6, l6⟩ := y6
          have HR6 : Hid (((rdEnd l5).bind fun y => Res.ok (y, ([] : List Nd))) = .ok (u6, l6)) := hr6
          obtain rfl := end_nil hr6
          clear hr6
          go_enter Tryz.func99, Tryz.ntmps99
          go_wp2_with (go_at_call 94; refine (text_bs il wd ks q _ _ _).mono ?_; rw [HT.out]; simp only [endOf, sval]; rintro e w2 ⟨rfl, hb2⟩; have hf2 := (Rg.start3 h 110 _ #[.int .i64 0, .string ⟨#[]⟩, .bool false, .int .i64 0, .int .i64 0, .int .i64 0, .int .i64 0, .int .u32 0, .int .i64 0, .string ⟨#[]⟩, .slice none 0 0, .int .i64 0, .int .u32 0, .int .i64 0, .string ⟨#[]⟩, .slice none 0 0, .slice none 0 0, .slice none 0 0] #[.int .i64 0, .string ⟨#[]⟩, .bool false, .int .i64 0, .int .i64 0, .int .i64 0, .int .i64 0, .int .u32 0, .int .i64 0, .string ⟨#[]⟩, .slice none 0 0, .int .i64 0, .int .u32 0, .int .i64 0, .string ⟨#[]⟩, .slice none 0 0, .slice none 0 0, .slice none 0 0]).below hb2; have c2 := hf2.cell; have z2 := hf2.free; have s2 := hf2.lt; have rc2 := hf2.rcell; have rz2 := hf2.rfree; have rs2 := hf2.rlt; have hg2 := (hf2.set 0 (.int .i64 2) (xc' := #[.int .i64 2, .string ⟨#[]⟩, .bool false, .int .i64 0, .int .i64 0, .int .i64 0, .int .i64 0, .int .u32 0, .int .i64 0, .string ⟨#[]⟩, .slice none 0 0, .int .i64 0, .int .u32 0, .int .i64 0, .string ⟨#[]⟩, .slice none 0 0, .slice none 0 0, .slice none 0 0]) rfl); have fg2 := ((Far.refl (w.heap.size + 2) w2).set 0 (.int .i64 2)))
          go_wp2_with (go_at_call 58; refine (name_tk hg2.rs).mono ?_; rintro e w3 hG3; obtain ⟨hRs3, v3, rfl, rfl⟩ := hG3.ok _ _ HR3.out; have hf3 := hg2.step hG3.kept hRs3; clear c2 z2 rc2 rz2; have c3 := hf3.cell; have z3 := hf3.free; have s3 := hf3.lt; have rc3 := hf3.rcell; have rz3 := hf3.rfree; have rs3 := hf3.rlt; have far3 : Far _ w2 w3 := fg2.kept hG3.kept (by omega); have hg3 := (hf3.set 1 (.string (bs t3)) (xc' := #[.int .i64 2, .string (bs t3), .bool false, .int .i64 0, .int .i64 0, .int .i64 0, .int .i64 0, .int .u32 0, .int .i64 0, .string ⟨#[]⟩, .slice none 0 0, .int .i64 0, .int .u32 0, .int .i64 0, .string ⟨#[]⟩, .slice none 0 0, .slice none 0 0, .slice none 0 0]) rfl); have fg3 := ((Far.refl (w.heap.size + 2) w3).set 1 (.string (bs t3))); clear hg2)
          go_wp2_with (go_at_call 97; refine (label_tk hg3.rs).mono ?_; rintro e w4 hG4; obtain ⟨hRs4, v4, rfl, rfl⟩ := hG4.ok _ _ HR4.out; have hf4 := hg3.step hG4.kept hRs4; clear c3 z3 rc3 rz3; have c4 := hf4.cell; have z4 := hf4.free; have s4 := hf4.lt; have rc4 := hf4.rcell; have rz4 := hf4.rfree; have rs4 := hf4.rlt; have far4 : Far _ w3 w4 := fg3.kept hG4.kept (by omega); have hg4 := (hf4.set 2 (.bool t4) (xc' := #[.int .i64 2, .string (bs t3), .bool t4, .int .i64 0, .int .i64 0, .int .i64 0, .int .i64 0, .int .u32 0, .int .i64 0, .string ⟨#[]⟩, .slice none 0 0, .int .i64 0, .int .u32 0, .int .i64 0, .string ⟨#[]⟩, .slice none 0 0, .slice none 0 0, .slice none 0 0]) rfl); have fg4 := ((Far.refl (w.heap.size + 2) w4).set 2 (.bool t4)); clear hg3)
          go_wp2_with (go_at_call 116; refine (within_tk 1 16 hg4.rs).mono ?_; rintro e w5 hG5; obtain ⟨hRs5, v5, rfl, rfl⟩ := hG5.ok _ _ HR5.out; have hf5 := hg4.step hG5.kept hRs5; clear c4 z4 rc4 rz4; have c5 := hf5.cell; have z5 := hf5.free; have s5 := hf5.lt; have rc5 := hf5.rcell; have rz5 := hf5.rfree; have rs5 := hf5.rlt; have far5 : Far _ w4 w5 := fg4.kept hG5.kept (by omega); have hg5 := (hf5.set 3 (.int .i64 (t5 : Int)) (xc' := #[.int .i64 2, .string (bs t3), .bool t4, .int .i64 (t5 : Int), .int .i64 0, .int .i64 0, .int .i64 0, .int .u32 0, .int .i64 0, .string ⟨#[]⟩, .slice none 0 0, .int .i64 0, .int .u32 0, .int .i64 0, .string ⟨#[]⟩, .slice none 0 0, .slice none 0 0, .slice none 0 0]) rfl); have fg5 := ((Far.refl (w.heap.size + 2) w5).set 3 (.int .i64 (t5 : Int))); clear hg4)
          go_wp2_with (first | (go_at_call 59; refine (end_tk hg5.rs).mono ?_; rintro e w6 hG6; obtain ⟨hRs6, v6, rfl, rfl⟩ := hG6.ok _ _ HR6.out; have hf6 := hg5.step hG6.kept hRs6; clear c5 z5 rc5 rz5; have far6 : Far _ w5 w6 := fg5.kept hG6.kept (by omega)) | (refine wpList_load_row rfl 110 (.tmp 5) rfl (w.heap.size + 2) rfl 110 #[.int .i64 2, .string (bs t3), .bool t4, .int .i64 (t5 : Int), .int .i64 0, .int .i64 0, .int .i64 0, .int .u32 0, .int .i64 0, .string ⟨#[]⟩, .slice none 0 0, .int .i64 0, .int .u32 0, .int .i64 0, .string ⟨#[]⟩, .slice none 0 0, .slice none 0 0, .slice none 0 0] (0, 0) _ hf6.x Tryz.underlying110 rfl info_stmt ?_) | (refine wpList_store_row rfl 110 (.tmp 4) _ rfl (w.heap.size + 1) #[.int .i64 2, .string (bs t3), .bool t4, .int .i64 (t5 : Int), .int .i64 0, .int .i64 0, .int .i64 0, .int .u32 0, .int .i64 0, .string ⟨#[]⟩, .slice none 0 0, .int .i64 0, .int .u32 0, .int .i64 0, .string ⟨#[]⟩, .slice none 0 0, .slice none 0 0, .slice none 0 0] rfl rfl 110 #[.int .i64 0, .string ⟨#[]⟩, .bool false, .int .i64 0, .int .i64 0, .int .i64 0, .int .i64 0, .int .u32 0, .int .i64 0, .string ⟨#[]⟩, .slice none 0 0, .int .i64 0, .int .u32 0, .int .i64 0, .string ⟨#[]⟩, .slice none 0 0, .slice none 0 0, .slice none 0 0] hf6.res info_stmt rfl (by simp [Value.oneCell']) ?_))
          have hEn := setRow_at (cs := #[.int .i64 2, .string (bs t3), .bool t4, .int .i64 (t5 : Int), .int .i64 0, .int .i64 0, .int .i64 0, .int .u32 0, .int .i64 0, .string ⟨#[]⟩, .slice none 0 0, .int .i64 0, .int .u32 0, .int .i64 0, .string ⟨#[]⟩, .slice none 0 0, .slice none 0 0, .slice none 0 0]) hf6.res
          have hKw := setRow_kept (b := w.heap.size + 1) #[.int .i64 2, .string (bs t3), .bool t4, .int .i64 (t5 : Int), .int .i64 0, .int .i64 0, .int .i64 0, .int .u32 0, .int .i64 0, .string ⟨#[]⟩, .slice none 0 0, .int .i64 0, .int .u32 0, .int .i64 0, .string ⟨#[]⟩, .slice none 0 0, .slice none 0 0, .slice none 0 0] hf6.kept (by omega)
          have hKb := setRow_in w6 (w.heap.size + 1) #[.int .i64 2, .string (bs t3), .bool t4, .int .i64 (t5 : Int), .int .i64 0, .int .i64 0, .int .i64 0, .int .u32 0, .int .i64 0, .string ⟨#[]⟩, .slice none 0 0, .int .i64 0, .int .u32 0, .int .i64 0, .string ⟨#[]⟩, .slice none 0 0, .slice none 0 0, .slice none 0 0]
          generalize World.setRow _ _ _ = W at hEn hKw hKb ⊢
          refine bodyPost_ret_by (results_row Tryz.results99 rfl (load_stmt hEn rfl)) rfl ?_
          refine .ofOk (x := Sm.mk 2 t3 t4 t5 0 0 (.mk 0 0 0 [] []) (.mk 0 0 0 [] []) [] []) (l := []) (by simp only [HSP.out, HR3.out, HR4.out, HR5.out, HR6.out, Res.bind_ok]) hKw (hf6.rs.keep hKb (fun k e => by omega) (by omega)) ⟨_, rfl, ?_⟩
          have go : Goes w6 W (fun b => w.heap.size + 2 < b) (fun b => w.heap.size ≤ b) := fun b hb hl => ⟨by omega, hKb.block b hl (by omega)⟩
          rw [smC_mk]
          exact ⟨none, 0, none, 0, none, 0, none, 0, rfl, Nat.le_refl _, Nat.le_refl _, Nat.le_refl _, Nat.le_refl _, (by rw [exR]; trivial), (by rw [exR]; trivial), (by rw [smR]; trivial), (by rw [smR]; trivial)⟩
end Go.Proofs.YtbpdhegfdmppgaaGreatDoor
