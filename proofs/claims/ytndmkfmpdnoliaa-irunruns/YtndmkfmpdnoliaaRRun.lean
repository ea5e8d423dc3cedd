/- CONTRACT of the reference's run, by induction on the fuel. -/
import Derived.Test.YtndmkfmpdnoliaaRCall
import Derived.Deep.RegionLaw
import Derived.Test.YtndmkfmpdnoliaaGOp
namespace Go.Proofs.Ytndmkfmpdnoliaa
open Go.ChangeShapes Go.WideShapes Go.ChangeAt Go.RowKit

/-- How far a run has come: g instructions at most are left. -/
def Rel (w0 : World) (v0 : Value) (R B : Nat) (s : Value) (P : List Co) (d : Nat) (c : Co) (O : Obj) (fin : Fr × St) (g : Nat) (i : Value) (w : World) : Prop :=
  ∃ fr st v, RS w0 v0 R B s c O st fr v w ∧ ((st.wrong ≠ 0 ∧ fin.2 = st) ∨ (st.wrong = 0 ∧ fr.ended = false ∧ fr.next < c.l.length ∧ st.left < g ∧ runF P g d c fr st = fin ∧ i = .int .i64 (fr.next : Int)))
theorem Rel.step {w0 : World} {v0 : Value} {R B : Nat} {s : Value} {P : List Co} {d : Nat} {c : Co} {O : Obj} {fin : Fr × St} {g : Nat} {i : Value} {w : World} {q : Fr × St} {v : Value} (h : RS w0 v0 R B s c O q.2 q.1 v w) (hf : runF P g d c q.1 q.2 = fin) (hfit : Fits c q.1) (he : q.1.ended = false) (hl : q.2.left < g) (hw : q.2.wrong = 0) (hi : i = .int .i64 (q.1.next : Int)) : Rel w0 v0 R B s P d c O fin g i w :=
  ⟨q.1, q.2, v, h, .inr ⟨hw, he, hfit.next he, hl, hf, hi⟩⟩
theorem RS.old {w0 wP : World} {v0 : Value} {R B : Nat} {s : Value} {c : Co} {O : Obj} {st : St} {fr : Fr} {v : Value} {w : World} (h : RS w0 v0 R B s c O st fr v w) (hb : Below wP.heap.size wP w0) (hR : wP.heap.size ≤ R) (hv : ∀ k, v0.ownBlock = some k → R < k) : ∀ b, b < wP.heap.size → w.heap[b]? = wP.heap[b]? := fun b hlt => by
  have := hb.size
  refine (h.kept.block b (by omega) ?_).trans (hb.block b hlt)
  rintro (e | e)
  · omega
  · have := hv b e; omega
theorem src_i (w : World) (u : Int) : Src Try.prog 1 29 (.slice (some ⟨w.heap.size, 0, none⟩) 1 1) 1 [.int .i64 u] (w.alloc (.cells #[.int .i64 u] 3)) :=
  Src.ofSlice _ Try.underlying29 ⟨w.heap.size, 0, none⟩ 1 1 [.int .i64 u] rfl (World.news_of_block (cs := #[.int .i64 u]) (t := 3) (fr := (0, 0)) (heap_alloc_new w _)) (by simp [Value.oneCell'])
theorem splitA_bd : ∀ (ps : List Ty) (ar : List Nat), (∀ n ∈ ar, n < 4294967296) → (∀ n ∈ (splitA ps ar).1, n < 4294967296) ∧ ∀ n ∈ (splitA ps ar).2, n < 4294967296
  | [], _, _ => ⟨fun n h => (by cases h), fun n h => (by cases h)⟩
  | t :: ps, ar, h => by
    by_cases hz : t.len = 0
    · rw [splitA, if_pos hz]
      have ih := splitA_bd ps ar.tail fun n hn => h n (List.mem_of_mem_tail hn)
      refine ⟨fun n hn => ?_, ih.2⟩
      rcases List.mem_cons.1 hn with e | e
      · rw [e]
        cases ar with
        | nil => decide
        | cons y l => exact h y (by simp)
      · exact ih.1 n e
    · rw [splitA, if_neg hz]
      have ih := splitA_bd ps (ar.drop t.len.toNat) fun n hn => h n (List.mem_of_mem_drop hn)
      refine ⟨ih.1, fun n hn => ?_⟩
      rcases List.mem_append.1 hn with e | e
      · exact h n (List.mem_of_mem_take e)
      · exact ih.2 n e
theorem RS.drew {w0 : World} {v0 : Value} {R B : Nat} {s : Value} {c : Co} {O : Obj} {st : St} {fr : Fr} {v : Value} {w : World} (h : RS w0 v0 R B s c O st fr v w) : RS w0 v0 R B s c O st fr v w.drew :=
  h.on (h.rm.keep (Kept.drew (Kept.refl (fun _ => False) w)) (fun e => e) (fun _ _ e => e)) (Kept.drew (Kept.refl _ w)) (fun _ e => .inl e)
set_option maxRecDepth 100000 in
set_option maxHeartbeats 16000000 in
theorem rrun_any {wP : World} {R : Nat} {a : Option Addr} {P : List Co} {cp : Nat} (hrow : kCo.row wP (fun _ => True) a P) (hPl : P.length ≤ 1000000) (hR : ∀ c ∈ P, (rightR c).1 = 0) (hwR : wP.heap.size ≤ R) : ∀ F, RunOk wP R a P cp F := by
  intro F
  induction F using Nat.strongRecOn with
  | _ F ih =>
  intro c pa pc la lc aa ar ac d st v w hmem hci hlen har hac hd hst hst0 hrm hb
  have hrc := hR c hmem
  obtain ⟨h1, h2, h3, h4, h5, h6, h7, h8, h9⟩ := formB_parts (right_form hrc)
  have hcb := cellsN_bd c.ps h5
  have hfit0 := start_fits hrc hlen
  have hbar := kWd.row_bd har
  obtain ⟨nr, hnr⟩ : ∃ nr : Nat, c.regs = nr := ⟨c.regs.toNat, by omega⟩
  obtain ⟨nc, hnc⟩ : ∃ nc : Nat, c.cells = nc := ⟨c.cells.toNat, by omega⟩
  have hvR : ∀ k, v.ownBlock = some k → R < k := fun k e => (hrm.lt k e).1
  have hvw : ∀ k, v.ownBlock = some k → k < w.heap.size := fun k e => (hrm.lt k e).2
  have hRw := lt_of_some hrm.r
  obtain ⟨fin, hfin⟩ : ∃ fin, runF P F d c (startF c ar) st = fin := ⟨_, rfl⟩
  rw [hfin]
  have hb1 := bl_alloc (Below.refl w.heap.size w) (coO c pa pc la lc)
  have hx1 := heap_alloc_new w (coO c pa pc la lc)
  have hz1 : (w.alloc (coO c pa pc la lc)).heap.size = w.heap.size + 1 := by simp
  have hbe := refBegin_any c.name c.ps nr nc c.l pa pc la lc ar aa ac (w.alloc (coO c pa pc la lc)) (kTy.row_mono (T := fun _ => True) (by decide) hci.ps fun b _ hlt => ⟨trivial, (hb1.block b (Nat.lt_of_lt_of_le hlt hb.size)).trans (hb.block b hlt)⟩) (kWd.row_mono (T := fun _ => True) (by decide) har fun b _ hlt => ⟨trivial, hb1.block b hlt⟩) h2 h5 (by omega) (by omega) (by omega) (by omega) hlen
  rw [hz1, ← hnr, ← hnc] at hbe
  have HST : Hid (∀ w2 : World, w2.heap[w.heap.size + 1 + 1]? = some (.cells (wvs (fill (splitA c.ps ar).1 nr)) 26) → w2.heap[w.heap.size + 1 + 2]? = some (.cells (wvs (fill (splitA c.ps ar).2 nc)) 26) → Below (w.heap.size + 1) (w.alloc (coO c pa pc la lc)) w2 →
      Rel w v R w.heap.size (.slice a P.length cp) P d c (coO c pa pc la lc) fin F (.int .i64 0) w2) := fun w2 hg hc hb2 => by
    have hbw : Below w.heap.size w w2 := bl_then hb1 (by rw [hz1]; exact hb2)
    have e1 : startF c ar = ⟨fill (splitA c.ps ar).1 nr, fill (splitA c.ps ar).2 nc, 0, false, 0⟩ := by unfold startF; rw [hnr, hnc]; rfl
    refine ⟨startF c ar, st, v, ⟨hrm.keep (Below.kept hbw (fun _ => False)) (fun e => e) (fun _ _ e => e), ?_, ?_, ?_, fun k e => .inl (hvw k e), hRw, Nat.le_refl _, hfit0.regs, hfit0.cells, ?_, ?_, Below.kept hbw _, fun k e => .inl e⟩, .inr ⟨hst0, rfl, h3, hst, hfin, rfl⟩⟩
    · exact (hb2.block _ (by omega)).trans hx1
    · rw [e1]; exact hg
    · rw [e1]; exact hc
    · rw [e1]; exact fill_bd (splitA_bd _ _ hbar).1
    · rw [e1]; exact fill_bd (splitA_bd _ _ hbar).2
  have hold := fun (fr : Fr) (st' : St) (v' : Value) (wr : World) (h : RS w v R w.heap.size (.slice a P.length cp) c (coO c pa pc la lc) st' fr v' wr) => h.old hb hwR hvR
  have HOLD : Hid _ := hold
  have HNR : Hid _ := hnr
  have HNC : Hid _ := hnc
  clear hold hfin hrm hx1 hb1 hfit0 hbar h1 h2 h6 h7 h9 hvw har hnr hnc
  unfold coV
  go_enter Try.func32, Try.ntmps32
  go_upto_region 3 with (first | (go_at_call 55; refine hbe.mono ?_; rintro e w2 ⟨rfl, hg2, hc2, hb2, hz2⟩))
  have HRel := HST.out w2 hg2 hc2 hb2
  clear hbe hg2 hc2 hb2 hz2 HST hz1
  go_loopg [13] F (fun g i wr => ∃ gn : Nat, gn = g ∧ gn ≤ F ∧ Rel w v R w.heap.size (.slice a P.length cp) P d c (coO c pa pc la lc) fin gn i wr)
  case atStart => exact ⟨_, rfl, Nat.le_refl _, HRel⟩
  case round =>
    obtain ⟨g, rfl, hgF, fr, st', v', hRS, hor⟩ := hrel
    rcases hor with ⟨hne, hf2⟩ | ⟨hw0, hen, hnx, hlf, hrun, rfl⟩
    · obtain ⟨r0, r1, r2, r3⟩ := cells4r hRS.rm.r
      have HP : Hid (RunPost w R (.slice a P.length cp) c v fin (.returned (.tuple #[.int .u32 0, .slice none 0 0])) wr) := Lib.hid ⟨v', by rw [hf2]; exact hRS.rm, hRS.kept, hRS.fresh, .inl ⟨by rw [hf2]; exact hne, rfl⟩⟩
      have hne' : (st'.wrong == 0) = false := by simpa using hne
      clear hRS hf2 hne r0 r1 r2 HRel
      go_wp2_with fail
      go_ret2
      exact HP.out
    obtain ⟨g', rfl⟩ : ∃ g', g = g' + 1 := ⟨g - 1, by omega⟩
    rw [runF_succ, if_neg (by rw [hen, hw0]; simp)] at hrun
    by_cases hz : st'.left = 0
    · obtain ⟨r0, r1, r2, r3⟩ := cells4r hRS.rm.r
      have hf3 := row_free hRS.rm.r 3
      unfold stepR at hrun
      rw [if_pos hz, runF_stop _ _ _ _ _ _ (.inr (by show (19 : Int) ≠ 0; decide))] at hrun
      have hRS2 := hRS.wrong 19
      have HP : Hid (RunPost w R (.slice a P.length cp) c v fin (.returned (.tuple #[.int .u32 0, .slice none 0 0])) (wr.setCell ⟨R, 3, none⟩ (.int .i64 19))) := Lib.hid ⟨v', by rw [← hrun]; exact hRS2.rm, hRS2.kept, hRS2.fresh, .inl ⟨by rw [← hrun]; show (19 : Int) ≠ 0; decide, rfl⟩⟩
      rw [hw0] at r3
      have hz' : ((st'.left : Int) == 0) = true := by rw [hz]; rfl
      clear hRS hRS2 hrun hnx hen hlf r0 r2 HRel
      go_wp2_with fail
      go_ret2
      exact HP.out
    obtain ⟨m, hm⟩ : ∃ m, st'.left = m + 1 := ⟨st'.left - 1, by omega⟩
    have hix := irOk_of (right_ir hrc fr.next hnx)
    obtain ⟨b, o, ga, gc, rfl, _, hbb, hat, hgc, hn, hra⟩ := ir_at hci.l fr.next hnx
    have hgd : c.l.getD fr.next noIr = c.l[fr.next] := by rw [List.getD_eq_getElem?_getD, List.getElem?_eq_getElem hnx]; rfl
    rw [hgd] at hrun
    have hfit := step_fits (P := P) (rec := runF P g') (d := d) ⟨hRS.rl, hRS.cl, fun _ => hnx⟩ hen hix hz
    unfold stepR at hrun hfit
    rw [if_neg hz] at hrun hfit
    generalize c.l[fr.next] = x at hrun hfit hix hat hgc hn hra
    have HAT : Hid _ := hat
    have HDN : Hid (∀ z : Int, z = (m : Int) → RS w v R w.heap.size (.slice a P.length cp) c (coO c pa pc (some ⟨b, o, none⟩) lc) { st' with left := m } fr v' (wr.setCell ⟨R, 1, none⟩ (.int .i64 z))) := fun z h => by rw [h]; exact hRS.down m (by omega)
    have hle := hRS.rm.left
    have hbr0 := hRS.rm.br
    obtain ⟨r0, r1, r2, r3⟩ := cells4r hRS.rm.r
    have hf1 := row_free hRS.rm.r 1
    rw [hw0] at r3
    have hz' : ((st'.left : Int) == 0) = false := by rw [beq_eq_false_iff_ne]; omega
    have hi0 : (0 : Int) ≤ (fr.next : Int) := by omega
    have hi1 : (fr.next : Int) < (c.l.length : Int) := by omega
    rw [show st'.left - 1 = m by omega] at hrun hfit
    have HRUN : Hid _ := hrun
    have HFIT : Hid _ := hfit
    clear hat hRS hrun hfit HRel r0 r2 hgd
    go_upto_region 7 with fail
    generalize hw7 : World.setCell wr _ _ = w7
    have hRS7 : RS w v R w.heap.size (.slice a P.length cp) c (coO c pa pc (some ⟨b, o, none⟩) lc) { st' with left := m } fr v' w7 := by rw [← hw7]; exact HDN.out _ (by omega)
    obtain ⟨k0, k1, k2, k3, k4⟩ := co_block hRS7.box
    obtain ⟨e0, e1, e2, e3, e4, e5, e6, e7, e8⟩ := HAT.out.keep (HOLD.out _ _ _ w7 hRS7 b hbb)
    have HRS7 : Hid _ := hRS7
    clear hw7 hRS7 r1 r3 hf1 k0 k1 k2 k3 HDN
    go_upto_region 9 with fail
    have hRS8 := HRS7.out.alloc (irB x ga gc)
    have hX8 := heap_alloc_new w7 (irB x ga gc)
    clear e0 e1 e2 e3 e4 e5 e6 e7 e8 k4
    generalize World.alloc w7 _ = w8 at hRS8 hX8 ⊢
    obtain ⟨q0, q1, q2, q3, q4, q5, q6, q7, q8⟩ := irB_at hX8
    have HRS8 : Hid _ := hRS8
    have HX8 : Hid _ := hX8
    have hmg : m < g' := by omega
    have HVX : Hid (v'.ownBlock ≠ some w7.heap.size) := fun e => by have := (HRS7.out.rm.lt _ e).2; omega
    have HRX : Hid (w7.heap.size ≠ R) := fun e => by have := lt_of_some HRS7.out.rm.r; omega
    clear HRS7
    by_cases k1 : x.kind = 1
    · have hd := hix.writes (by simp [writesB, k1])
      obtain ⟨kd, hkd⟩ : ∃ kd : Nat, x.d = kd := ⟨x.d.toNat, by omega⟩
      have hkl : kd < fr.regs.length := by have := hRS8.rl; omega
      have HREL : Hid (∀ i, i = .int .i64 ((fr.next + 1 : Nat) : Int) → Rel w v R w.heap.size (.slice a P.length cp) P d c (coO c pa pc (some ⟨b, o, none⟩) lc) fin g' i (w8.setCell ⟨w.heap.size + 2, kd, none⟩ (.int .u32 (x.n : Int)))) := fun i hi => by
        have h1 := HRUN.out
        have h2 := HFIT.out
        rw [doIr_1 k1, hkd, Int.toNat_natCast] at h1 h2
        exact Rel.step (q := (_, _)) ((HRS8.out.reg kd x.n hn).frame (fr.next + 1)) h1 h2 hen hmg hw0 hi
      have c1 := row_cell hRS8.g hkl
      have f1 := row_free hRS8.g kd
      have j0 : (0 : Int) ≤ (kd : Int) := by omega
      have j1 : (kd : Int) < (nr : Int) := by have := hRS8.rl; have h2 := HNR.out; omega
      rw [k1] at q0
      rw [hkd] at q2
      clear hRS8 hX8 HRUN HFIT hix HOLD ih q1 q3 q4 q5 q7 q8
      go_wp2_with fail
      go_roundg g'
      case measure => omega
      case rel => exact ⟨_, rfl, by omega, HREL.out _ (by go_num)⟩
    by_cases k8 : x.kind = 8
    · have hj := hix.jump (.inl k8)
      obtain ⟨kc, hkc⟩ : ∃ kc : Nat, x.c = kc := ⟨x.c.toNat, by omega⟩
      have HREL : Hid (∀ i, i = .int .i64 (kc : Int) → Rel w v R w.heap.size (.slice a P.length cp) P d c (coO c pa pc (some ⟨b, o, none⟩) lc) fin g' i w8) := fun i hi => by
        have h1 := HRUN.out
        have h2 := HFIT.out
        rw [doIr_8 k8, hkc, Int.toNat_natCast] at h1 h2
        exact Rel.step (q := (_, _)) (HRS8.out.frame kc) h1 h2 hen hmg hw0 hi
      rw [k8] at q0
      rw [hkc] at q5
      clear hRS8 hX8 HRUN HFIT hix HOLD ih q1 q2 q3 q4 q6 q7 q8
      go_wp2_with fail
      go_roundg g'
      case measure => omega
      case rel => exact ⟨_, rfl, by omega, HREL.out _ rfl⟩
    by_cases k2 : x.kind = 2
    · have hd := hix.writes (by simp [writesB, k2])
      have ha := hix.reads x.a (by simp [readsL, k2])
      obtain ⟨kd, hkd⟩ : ∃ kd : Nat, x.d = kd := ⟨x.d.toNat, by omega⟩
      obtain ⟨ka, hka⟩ : ∃ ka : Nat, x.a = ka := ⟨x.a.toNat, by omega⟩
      have hkl : kd < fr.regs.length := by have := hRS8.rl; omega
      have hkla : ka < fr.regs.length := by have := hRS8.rl; omega
      have HREL : Hid (∀ i, i = .int .i64 ((fr.next + 1 : Nat) : Int) → Rel w v R w.heap.size (.slice a P.length cp) P d c (coO c pa pc (some ⟨b, o, none⟩) lc) fin g' i (w8.drew.setCell ⟨w.heap.size + 2, kd, none⟩ (.int .u32 (fr.regs[ka] : Int)))) := fun i hi => by
        have h1 := HRUN.out
        have h2 := HFIT.out
        rw [doIr_2 k2, hkd, hka, Int.toNat_natCast] at h1 h2
        simp only [at0_lt hkla] at h1 h2
        exact Rel.step (q := (_, _)) ((HRS8.out.drew.reg kd fr.regs[ka] (HRS8.out.regs _ (List.getElem_mem hkla))).frame (fr.next + 1)) h1 h2 hen hmg hw0 hi
      have c1 := row_cell hRS8.g hkl
      have c2 := row_cell hRS8.g hkla
      have f1 := row_free hRS8.g kd
      have j0 : (0 : Int) ≤ (kd : Int) := by omega
      have j1 : (kd : Int) < (nr : Int) := by have := hRS8.rl; have h2 := HNR.out; omega
      have j2 : (0 : Int) ≤ (ka : Int) := by omega
      have j3 : (ka : Int) < (nr : Int) := by have := hRS8.rl; have h2 := HNR.out; omega
      rw [k2] at q0
      rw [hkd] at q2
      rw [hka] at q3
      clear hRS8 hX8 HRUN HFIT hix HOLD ih q1 q4 q5 q6 q7 q8
      go_upto_region 13 with fail
      go_region
      all_goals
        go_wp2_with fail
        go_roundg g'
        case measure => omega
        case rel => exact ⟨_, rfl, by omega, HREL.out _ (by go_num)⟩
    by_cases k10 : x.kind = 10
    · have ha := hix.reads x.a (by simp [readsL, k10])
      obtain ⟨ka, hka⟩ : ∃ ka : Nat, x.a = ka := ⟨x.a.toNat, by omega⟩
      have hkla : ka < fr.regs.length := by have := hRS8.rl; omega
      obtain ⟨kc, hkc⟩ : ∃ kc : Nat, cellsN c.ps = kc := ⟨(cellsN c.ps).toNat, by omega⟩
      have hkn : kc ≤ nc := by have h2 := HNC.out; omega
      have HP : Hid (∀ n, RunPost w R (.slice a P.length cp) c v fin (.returned (.tuple #[.int .u32 (fr.regs[ka] : Int), .slice (some ⟨w.heap.size + 3, 0, none⟩) kc nc])) (w8.drewN n)) := fun n => by
        have h1 := HRUN.out
        rw [doIr_10 (fun n a b e => by omega), runF_stop _ _ _ _ _ _ (.inl rfl)] at h1
        simp only [hka, at0_lt hkla] at h1
        have hkp : Kept (fun _ => False) w8 (w8.drewN n) := Below.kept (drewN_below w8 n) _
        have hncl : fr.cells.length = nc := by have := HRS8.out.cl; have h2 := HNC.out; omega
        rw [← h1]
        refine ⟨v', HRS8.out.rm.keep hkp (fun e => e) (fun _ _ e => e), HRS8.out.kept.trans (hkp.mono fun _ _ e => e.elim), HRS8.out.fresh, .inr ⟨hw0, w.heap.size + 3, ?_, ?_, by omega, ?_, HRS8.out.regs _ (List.getElem_mem hkla), HRS8.out.cells, ?_⟩⟩
        · rw [hkc]; simp only [hncl]; rfl
        · intro e; have := HRS8.out.va _ e; omega
        · exact HRS8.out.cc
        · rw [hkc]; show (kc : Int) ≤ (fr.cells.length : Nat); omega
      have c2 := row_cell hRS8.g hkla
      have j2 : (0 : Int) ≤ (ka : Int) := by omega
      have j3 : (ka : Int) < (nr : Int) := by have := hRS8.rl; have h2 := HNR.out; omega
      have j4 : (0 : Int) ≤ (kc : Int) := by omega
      have j5 : (kc : Int) ≤ (nc : Int) := by omega
      rw [k10] at q0
      rw [hka] at q3
      rw [hkc]
      clear hRS8 hX8 HRUN HFIT hix HOLD ih q1 q2 q4 q5 q6 q7 q8
      go_upto_region 37 with fail
      go_quiet (fail)
      go_wp2_with fail
      go_ret2
      exact HP.out _
    by_cases k5 : x.kind = 5
    · have hd := hix.writes (by simp [writesB, k5])
      have had := hix.addr (.inl k5)
      obtain ⟨kd, hkd⟩ : ∃ kd : Nat, x.d = kd := ⟨x.d.toNat, by omega⟩
      have hkl : kd < fr.regs.length := by have := hRS8.rl; omega
      have hkla : x.n < fr.cells.length := by have := hRS8.cl; omega
      have HREL : Hid (∀ i, i = .int .i64 ((fr.next + 1 : Nat) : Int) → Rel w v R w.heap.size (.slice a P.length cp) P d c (coO c pa pc (some ⟨b, o, none⟩) lc) fin g' i (w8.drew.setCell ⟨w.heap.size + 2, kd, none⟩ (.int .u32 (fr.cells[x.n] : Int)))) := fun i hi => by
        have h1 := HRUN.out
        have h2 := HFIT.out
        rw [doIr_5 k5, hkd, Int.toNat_natCast] at h1 h2
        simp only [List.getD_eq_getElem?_getD, List.getElem?_eq_getElem hkla, Option.getD_some] at h1 h2
        exact Rel.step (q := (_, _)) ((HRS8.out.drew.reg kd fr.cells[x.n] (HRS8.out.cells _ (List.getElem_mem hkla))).frame (fr.next + 1)) h1 h2 hen hmg hw0 hi
      have c1 := row_cell hRS8.g hkl
      have c2 := row_cell hRS8.cc hkla
      have f1 := row_free hRS8.g kd
      have j0 : (0 : Int) ≤ (kd : Int) := by omega
      have j1 : (kd : Int) < (nr : Int) := by have := hRS8.rl; have h2 := HNR.out; omega
      have j2 : (0 : Int) ≤ (x.n : Int) := by omega
      have j3 : (x.n : Int) < (nc : Int) := by have h2 := HNC.out; omega
      rw [k5] at q0
      rw [hkd] at q2
      clear hRS8 hX8 HRUN HFIT hix HOLD ih q1 q3 q4 q5 q7 q8
      go_upto_region 23 with fail
      go_region
      all_goals
        go_wp2_with fail
        go_roundg g'
        case measure => omega
        case rel => exact ⟨_, rfl, by omega, HREL.out _ (by go_num)⟩
    by_cases k6 : x.kind = 6
    · have ha := hix.reads x.a (by simp [readsL, k6])
      have had := hix.addr (.inr k6)
      obtain ⟨ka, hka⟩ : ∃ ka : Nat, x.a = ka := ⟨x.a.toNat, by omega⟩
      have hkla : ka < fr.regs.length := by have := hRS8.rl; omega
      have hkl : x.n < fr.cells.length := by have := hRS8.cl; omega
      have HREL : Hid (∀ i, i = .int .i64 ((fr.next + 1 : Nat) : Int) → Rel w v R w.heap.size (.slice a P.length cp) P d c (coO c pa pc (some ⟨b, o, none⟩) lc) fin g' i (w8.drew.setCell ⟨w.heap.size + 3, x.n, none⟩ (.int .u32 (fr.regs[ka] : Int)))) := fun i hi => by
        have h1 := HRUN.out
        have h2 := HFIT.out
        rw [doIr_6 k6] at h1 h2
        simp only [hka, at0_lt hkla] at h1 h2
        exact Rel.step (q := (_, _)) ((HRS8.out.drew.cell x.n fr.regs[ka] (HRS8.out.regs _ (List.getElem_mem hkla))).frame (fr.next + 1)) h1 h2 hen hmg hw0 hi
      have c1 := row_cell hRS8.cc hkl
      have c2 := row_cell hRS8.g hkla
      have f1 := row_free hRS8.cc x.n
      have j0 : (0 : Int) ≤ (x.n : Int) := by omega
      have j1 : (x.n : Int) < (nc : Int) := by have h2 := HNC.out; omega
      have j2 : (0 : Int) ≤ (ka : Int) := by omega
      have j3 : (ka : Int) < (nr : Int) := by have := hRS8.rl; have h2 := HNR.out; omega
      rw [k6] at q0
      rw [hka] at q3
      clear hRS8 hX8 HRUN HFIT hix HOLD ih q1 q2 q4 q5 q7 q8
      go_upto_region 25 with fail
      go_region
      all_goals
        go_wp2_with fail
        go_roundg g'
        case measure => omega
        case rel => exact ⟨_, rfl, by omega, HREL.out _ (by go_num)⟩
    by_cases k4 : x.kind = 4
    · have hd := hix.writes (by simp [writesB, k4])
      have ha := hix.reads x.a (by simp [readsL, k4])
      have hxb := hix.reads x.b (by simp [readsL, k4])
      have hxc := hix.reads x.c (by simp [readsL, k4])
      obtain ⟨kd, hkd⟩ : ∃ kd : Nat, x.d = kd := ⟨x.d.toNat, by omega⟩
      obtain ⟨ka, hka⟩ : ∃ ka : Nat, x.a = ka := ⟨x.a.toNat, by omega⟩
      obtain ⟨kb, hkb⟩ : ∃ kb : Nat, x.b = kb := ⟨x.b.toNat, by omega⟩
      obtain ⟨kc, hkc⟩ : ∃ kc : Nat, x.c = kc := ⟨x.c.toNat, by omega⟩
      have hrl := hRS8.rl
      have hkl : kd < fr.regs.length := by omega
      have hkla : ka < fr.regs.length := by omega
      have hklb : kb < fr.regs.length := by omega
      have hklc : kc < fr.regs.length := by omega
      have HREL : Hid (∀ i n, n = (if fr.regs[ka] = 0 then fr.regs[kc] else fr.regs[kb]) → i = .int .i64 ((fr.next + 1 : Nat) : Int) → Rel w v R w.heap.size (.slice a P.length cp) P d c (coO c pa pc (some ⟨b, o, none⟩) lc) fin g' i (w8.setCell ⟨w.heap.size + 2, kd, none⟩ (.int .u32 (n : Int)))) := fun i n hn2 hi => by
        have h1 := HRUN.out
        have h2 := HFIT.out
        rw [doIr_4 k4, hkd, hka, hkb, hkc, Int.toNat_natCast] at h1 h2
        simp only [at0_lt hkla, at0_lt hklb, at0_lt hklc] at h1 h2
        rw [← hn2] at h1 h2
        exact Rel.step (q := (_, _)) ((HRS8.out.reg kd n (by rw [hn2]; split <;> exact HRS8.out.regs _ (List.getElem_mem _))).frame (fr.next + 1)) h1 h2 hen hmg hw0 hi
      have c1 := row_cell hRS8.g hkl
      have c2 := row_cell hRS8.g hkla
      have c3 := row_cell hRS8.g hklb
      have c4 := row_cell hRS8.g hklc
      have f1 := row_free hRS8.g kd
      have hnr := HNR.out
      have j0 : (0 : Int) ≤ (kd : Int) := by omega
      have j1 : (kd : Int) < (nr : Int) := by omega
      have j2 : (0 : Int) ≤ (ka : Int) := by omega
      have j3 : (ka : Int) < (nr : Int) := by omega
      have j4 : (0 : Int) ≤ (kb : Int) := by omega
      have j5 : (kb : Int) < (nr : Int) := by omega
      have j6 : (0 : Int) ≤ (kc : Int) := by omega
      have j7 : (kc : Int) < (nr : Int) := by omega
      rw [k4] at q0
      rw [hkd] at q2
      rw [hka] at q3
      rw [hkb] at q4
      rw [hkc] at q5
      clear hRS8 hX8 HRUN HFIT hix HOLD ih q1 q6 q7 q8 hnr hrl hkd hka hkb hkc
      by_cases hzz : fr.regs[ka] = 0
      · have hz2 : ((fr.regs[ka] : Int) == 0) = true := by rw [hzz]; rfl
        have HR2 : Hid _ := fun i => HREL.out i fr.regs[kc] (by rw [if_pos hzz])
        clear hzz HREL
        go_wp2_with fail
        go_roundg g'
        case measure => omega
        case rel => exact ⟨_, rfl, by omega, HR2.out _ (by go_num)⟩
      · have hz2 : ((fr.regs[ka] : Int) == 0) = false := by rw [beq_eq_false_iff_ne]; omega
        have HR2 : Hid _ := fun i => HREL.out i fr.regs[kb] (by rw [if_neg hzz])
        clear hzz HREL
        go_wp2_with fail
        go_roundg g'
        case measure => omega
        case rel => exact ⟨_, rfl, by omega, HR2.out _ (by go_num)⟩
    by_cases k9 : x.kind = 9
    · have ha := hix.reads x.a (by simp [readsL, k9])
      have hj := hix.jump (.inr k9)
      obtain ⟨ka, hka⟩ : ∃ ka : Nat, x.a = ka := ⟨x.a.toNat, by omega⟩
      obtain ⟨kc, hkc⟩ : ∃ kc : Nat, x.c = kc := ⟨x.c.toNat, by omega⟩
      have hkla : ka < fr.regs.length := by have := hRS8.rl; omega
      have c2 := row_cell hRS8.g hkla
      have j2 : (0 : Int) ≤ (ka : Int) := by omega
      have j3 : (ka : Int) < (nr : Int) := by have := hRS8.rl; have h2 := HNR.out; omega
      obtain ⟨r0, r1, r2, r3⟩ := cells4r hRS8.rm.r
      rw [k9] at q0
      rw [hka] at q3
      clear hRS8 hX8 hix HOLD ih q1 q2 q4 q6 q7 q8 r0 r1 r3
      by_cases hzz : fr.regs[ka] = 0
      · have hz2 : ((fr.regs[ka] : Int) == 0) = true := by rw [hzz]; rfl
        have hownA : (w8.alloc (.cells #[.int .i64 0] 3)).ownsRow (R + 1) 3 1 v' st'.br.length (st'.br.map (Value.int .i64)) := own_kept HRS8.out.rm.own (Kept.alloc w8 _ (fun _ => False)) (fun _ _ e => e)
        have hsrcA := src_i w8 0
        have hbsA : R + 1 ≤ (w8.alloc (.cells #[.int .i64 0] 3)).heap.size := by have := lt_of_some HRS8.out.rm.r; simp; omega
        have HPU : Hid (∀ (y : Option Addr) (c2 : Nat) (w9 : World), w9.ownsRow (R + 1) 3 1 (.slice y (st'.br.length + 1) c2) (st'.br.length + 1) (st'.br.map (Value.int .i64) ++ [.int .i64 0]) → (w8.alloc (.cells #[.int .i64 0] 3)).grownBy w9 v'.ownBlock → ((Value.slice y (st'.br.length + 1) c2).ownBlock = v'.ownBlock ∨ (Value.slice y (st'.br.length + 1) c2).ownBlock = some (w8.alloc (.cells #[.int .i64 0] 3)).heap.size) → ∀ i, i = .int .i64 ((kc : Nat) : Int) → Rel w v R w.heap.size (.slice a P.length cp) P d c (coO c pa pc (some ⟨b, o, none⟩) lc) fin g' i (w9.setCell ⟨R, 2, none⟩ (.slice y (st'.br.length + 1) c2))) := fun y c2 w9 ho hg ha2 i hi => by
          have h1 := HRUN.out
          have h2 := HFIT.out
          rw [doIr_9 k9] at h1 h2
          simp only [hka, at0_lt hkla] at h1 h2
          rw [if_pos hzz] at h1 h2
          rw [hkc, Int.toNat_natCast] at h1 h2
          exact Rel.step (q := (_, _)) ((HRS8.out.push (Kept.alloc w8 _ _) 0 ho hg ha2 (by show st'.br.length + 1 + m ≤ 60000; omega)).frame (kc)) h1 h2 hen hmg hw0 hi
        have HGR : Hid (∀ w9 : World, (w8.alloc (.cells #[.int .i64 0] 3)).grownBy w9 v'.ownBlock → w9.heap[R]? = some (runO (.slice a P.length cp) { st' with left := m } v') ∧ w9.heap[w7.heap.size]? = some (irB x ga gc)) := fun w9 hg => by
          have hR8 := lt_of_some HRS8.out.rm.r
          have hX8' := lt_of_some HX8.out
          refine ⟨(hg.block R (by simp; omega) fun e => by have := (HRS8.out.rm.lt R e.symm).1; omega).trans ((heap_alloc_old w8 _ hR8).trans HRS8.out.rm.r), (hg.block _ (by simp; omega) fun e => HVX.out e.symm).trans ((heap_alloc_old w8 _ hX8').trans HX8.out)⟩
        clear HRUN HFIT
        go_upto_region 34 with (first | (at_builtin; refine wpList_append_src int_info rfl Try.underlying29 (by decide) _ rfl _ _ rfl (R + 1) v' st'.br.length _ rfl hownA _ 1 [.int .i64 0] rfl hsrcA (by omega) hbsA ?_; intro y c2 w9 hown9 hgrow hat9; have hgr := HGR.out w9 hgrow; have hgr1 := cells4r hgr.1; have hgr2 := hgr1.2.2.1; have hgr3 := row_free hgr.1 2))
        have HRL : Hid _ := HPU.out y c2 w9 hown9 hgrow hat9
        have hX9 := ((Kept.set w9 R 2 (.slice y (st'.br.length + 1) c2)).block _ (lt_of_some hgr.2) (fun e => HRX.out e)).trans hgr.2
        generalize World.setCell w9 _ _ = w10 at HRL hX9 ⊢
        obtain ⟨p0, p1, p2, p3, p4, p5, p6, p7, p8⟩ := irB_at hX9
        rw [hkc] at p5
        clear hown9 hgrow hat9 hgr hgr1 hgr2 hgr3 hownA hsrcA hbsA HPU HGR p0 p1 p2 p3 p4 p6 p7 p8 hX9 q5
        go_wp2_with fail
        go_roundg g'
        case measure => omega
        case rel => exact ⟨_, rfl, by omega, HRL.out _ rfl⟩
      · have hz2 : ((fr.regs[ka] : Int) == 0) = false := by rw [beq_eq_false_iff_ne]; omega
        have hownA : (w8.alloc (.cells #[.int .i64 1] 3)).ownsRow (R + 1) 3 1 v' st'.br.length (st'.br.map (Value.int .i64)) := own_kept HRS8.out.rm.own (Kept.alloc w8 _ (fun _ => False)) (fun _ _ e => e)
        have hsrcA := src_i w8 1
        have hbsA : R + 1 ≤ (w8.alloc (.cells #[.int .i64 1] 3)).heap.size := by have := lt_of_some HRS8.out.rm.r; simp; omega
        have HPU : Hid (∀ (y : Option Addr) (c2 : Nat) (w9 : World), w9.ownsRow (R + 1) 3 1 (.slice y (st'.br.length + 1) c2) (st'.br.length + 1) (st'.br.map (Value.int .i64) ++ [.int .i64 1]) → (w8.alloc (.cells #[.int .i64 1] 3)).grownBy w9 v'.ownBlock → ((Value.slice y (st'.br.length + 1) c2).ownBlock = v'.ownBlock ∨ (Value.slice y (st'.br.length + 1) c2).ownBlock = some (w8.alloc (.cells #[.int .i64 1] 3)).heap.size) → ∀ i, i = .int .i64 ((fr.next + 1 : Nat) : Int) → Rel w v R w.heap.size (.slice a P.length cp) P d c (coO c pa pc (some ⟨b, o, none⟩) lc) fin g' i (w9.setCell ⟨R, 2, none⟩ (.slice y (st'.br.length + 1) c2))) := fun y c2 w9 ho hg ha2 i hi => by
          have h1 := HRUN.out
          have h2 := HFIT.out
          rw [doIr_9 k9] at h1 h2
          simp only [hka, at0_lt hkla] at h1 h2
          rw [if_neg hzz] at h1 h2
          exact Rel.step (q := (_, _)) ((HRS8.out.push (Kept.alloc w8 _ _) 1 ho hg ha2 (by show st'.br.length + 1 + m ≤ 60000; omega)).frame (fr.next + 1)) h1 h2 hen hmg hw0 hi
        have HGR : Hid (∀ w9 : World, (w8.alloc (.cells #[.int .i64 1] 3)).grownBy w9 v'.ownBlock → w9.heap[R]? = some (runO (.slice a P.length cp) { st' with left := m } v') ∧ w9.heap[w7.heap.size]? = some (irB x ga gc)) := fun w9 hg => by
          have hR8 := lt_of_some HRS8.out.rm.r
          have hX8' := lt_of_some HX8.out
          refine ⟨(hg.block R (by simp; omega) fun e => by have := (HRS8.out.rm.lt R e.symm).1; omega).trans ((heap_alloc_old w8 _ hR8).trans HRS8.out.rm.r), (hg.block _ (by simp; omega) fun e => HVX.out e.symm).trans ((heap_alloc_old w8 _ hX8').trans HX8.out)⟩
        clear HRUN HFIT
        go_upto_region 36 with (first | (at_builtin; refine wpList_append_src int_info rfl Try.underlying29 (by decide) _ rfl _ _ rfl (R + 1) v' st'.br.length _ rfl hownA _ 1 [.int .i64 1] rfl hsrcA (by omega) hbsA ?_; intro y c2 w9 hown9 hgrow hat9; have hgr := HGR.out w9 hgrow; have hgr1 := cells4r hgr.1; have hgr2 := hgr1.2.2.1; have hgr3 := row_free hgr.1 2))
        have HRL : Hid _ := HPU.out y c2 w9 hown9 hgrow hat9
        generalize World.setCell w9 _ _ = w10 at HRL ⊢
        clear hown9 hgrow hat9 hgr hgr1 hgr2 hgr3 hownA hsrcA hbsA HPU HGR q5
        go_wp2_with fail
        go_roundg g'
        case measure => omega
        case rel => exact ⟨_, rfl, by omega, HRL.out _ (by go_num)⟩
    by_cases k3 : x.kind = 3
    · have hd := hix.writes (by simp [writesB, k3])
      have ha := hix.reads x.a (by simp [readsL, k3])
      have hxb := hix.reads x.b (by simp [readsL, k3])
      obtain ⟨kd, hkd⟩ : ∃ kd : Nat, x.d = kd := ⟨x.d.toNat, by omega⟩
      obtain ⟨ka, hka⟩ : ∃ ka : Nat, x.a = ka := ⟨x.a.toNat, by omega⟩
      obtain ⟨kb, hkb⟩ : ∃ kb : Nat, x.b = kb := ⟨x.b.toNat, by omega⟩
      have hrl := hRS8.rl
      have hkl : kd < fr.regs.length := by omega
      have hkla : ka < fr.regs.length := by omega
      have hklb : kb < fr.regs.length := by omega
      have hA := hRS8.regs _ (List.getElem_mem hkla)
      have hB := hRS8.regs _ (List.getElem_mem hklb)
      have hop := fun W => Ref1.rop_any x.op (fr.regs[ka] : Int) (fr.regs[kb] : Int) (by omega) (by omega) (by omega) (by omega) W
      have hlim := opz_lim x.op (fr.regs[ka] : Int) (fr.regs[kb] : Int) (by omega) (by omega) (by omega) (by omega)
      obtain ⟨z, hz9⟩ : ∃ z : Nat, opz x.op (fr.regs[ka] : Int) (fr.regs[kb] : Int) = z := ⟨(opz x.op (fr.regs[ka] : Int) (fr.regs[kb] : Int)).toNat, by omega⟩
      rw [hz9] at hlim
      simp only [hz9] at hop
      generalize opb x.op = bb at hop
      have HREL : Hid (∀ i w9, RS w v R w.heap.size (.slice a P.length cp) c (coO c pa pc (some ⟨b, o, none⟩) lc) { st' with left := m } fr v' w9 → i = .int .i64 ((fr.next + 1 : Nat) : Int) → Rel w v R w.heap.size (.slice a P.length cp) P d c (coO c pa pc (some ⟨b, o, none⟩) lc) fin g' i (w9.setCell ⟨w.heap.size + 2, kd, none⟩ (.int .u32 (z : Int)))) := fun i w9 h9 hi => by
        have h1 := HRUN.out
        have h2 := HFIT.out
        rw [doIr_3 k3, hkd, hka, hkb, Int.toNat_natCast] at h1 h2
        simp only [at0_lt hkla, at0_lt hklb, hz9, Int.toNat_natCast] at h1 h2
        exact Rel.step (q := (_, _)) ((h9.reg kd z (by omega)).frame (fr.next + 1)) h1 h2 hen hmg hw0 hi
      have HKD : Hid _ := hkd
      have c2 := row_cell hRS8.g hkla
      have c3 := row_cell hRS8.g hklb
      have hnr := HNR.out
      have j0 : (0 : Int) ≤ (kd : Int) := by omega
      have j1 : (kd : Int) < (nr : Int) := by omega
      have j2 : (0 : Int) ≤ (ka : Int) := by omega
      have j3 : (ka : Int) < (nr : Int) := by omega
      have j4 : (0 : Int) ≤ (kb : Int) := by omega
      have j5 : (kb : Int) < (nr : Int) := by omega
      rw [k3] at q0
      rw [hka] at q3
      rw [hkb] at q4
      clear hRS8 hX8 HRUN HFIT hix HOLD ih q2 q5 q6 q7 q8 hnr hrl hka hkb hlim hz9 hkd
      go_upto_region 15 with fail
      have HD0 : Hid ((Below w8.heap.size w8 w8.drew ∧ w8.drew.cell? ⟨w7.heap.size, 1, none⟩ = some (.int .i64 x.op) ∧ w8.drew.cell? ⟨w7.heap.size, 3, none⟩ = some (.int .i64 (ka : Int)) ∧ w8.drew.cell? ⟨w7.heap.size, 4, none⟩ = some (.int .i64 (kb : Int)) ∧ w8.drew.cell? ⟨w.heap.size + 2, ka, none⟩ = some (.int .u32 (fr.regs[ka] : Int)) ∧ w8.drew.cell? ⟨w.heap.size + 2, kb, none⟩ = some (.int .u32 (fr.regs[kb] : Int)))) := ⟨Kept.to_below (Kept.drew (Kept.refl (fun _ => False) w8)) (fun _ e => e.elim), q1, q3, q4, c2, c3⟩
      have hX := lt_of_some HX8.out
      have hG := lt_of_some HRS8.out.g
      have HALL : Hid (∀ w1 w' : World, (Below w8.heap.size w8 w' ∧ w'.cell? ⟨w7.heap.size, 1, none⟩ = some (.int .i64 x.op) ∧ w'.cell? ⟨w7.heap.size, 3, none⟩ = some (.int .i64 (ka : Int)) ∧ w'.cell? ⟨w7.heap.size, 4, none⟩ = some (.int .i64 (kb : Int)) ∧ w'.cell? ⟨w.heap.size + 2, ka, none⟩ = some (.int .u32 (fr.regs[ka] : Int)) ∧ w'.cell? ⟨w.heap.size + 2, kb, none⟩ = some (.int .u32 (fr.regs[kb] : Int))) → ∀ w2, Below w1.heap.size w1 w2 → True) := fun _ _ _ _ _ => trivial
      have HAL : Hid (∀ w1 w' : World, (Below w8.heap.size w8 w1 ∧ w1.cell? ⟨w7.heap.size, 1, none⟩ = some (.int .i64 x.op) ∧ w1.cell? ⟨w7.heap.size, 3, none⟩ = some (.int .i64 (ka : Int)) ∧ w1.cell? ⟨w7.heap.size, 4, none⟩ = some (.int .i64 (kb : Int)) ∧ w1.cell? ⟨w.heap.size + 2, ka, none⟩ = some (.int .u32 (fr.regs[ka] : Int)) ∧ w1.cell? ⟨w.heap.size + 2, kb, none⟩ = some (.int .u32 (fr.regs[kb] : Int))) → Below w1.heap.size w1 w' → (Below w8.heap.size w8 w' ∧ w'.cell? ⟨w7.heap.size, 1, none⟩ = some (.int .i64 x.op) ∧ w'.cell? ⟨w7.heap.size, 3, none⟩ = some (.int .i64 (ka : Int)) ∧ w'.cell? ⟨w7.heap.size, 4, none⟩ = some (.int .i64 (kb : Int)) ∧ w'.cell? ⟨w.heap.size + 2, ka, none⟩ = some (.int .u32 (fr.regs[ka] : Int)) ∧ w'.cell? ⟨w.heap.size + 2, kb, none⟩ = some (.int .u32 (fr.regs[kb] : Int)))) := fun w1 w' h hb => by
        have hs := h.1.size
        exact ⟨bl_then h.1 hb, (hb.cell (p := ⟨w7.heap.size, 1, none⟩) (by show w7.heap.size < _; omega)).trans h.2.1, (hb.cell (p := ⟨w7.heap.size, 3, none⟩) (by show w7.heap.size < _; omega)).trans h.2.2.1, (hb.cell (p := ⟨w7.heap.size, 4, none⟩) (by show w7.heap.size < _; omega)).trans h.2.2.2.1, (hb.cell (p := ⟨w.heap.size + 2, ka, none⟩) (by show w.heap.size + 2 < _; omega)).trans h.2.2.2.2.1, (hb.cell (p := ⟨w.heap.size + 2, kb, none⟩) (by show w.heap.size + 2 < _; omega)).trans h.2.2.2.2.2⟩
      clear HALL
      go_region_held3 (fun w' : World => (Below w8.heap.size w8 w' ∧ w'.cell? ⟨w7.heap.size, 1, none⟩ = some (.int .i64 x.op) ∧ w'.cell? ⟨w7.heap.size, 3, none⟩ = some (.int .i64 (ka : Int)) ∧ w'.cell? ⟨w7.heap.size, 4, none⟩ = some (.int .i64 (kb : Int)) ∧ w'.cell? ⟨w.heap.size + 2, ka, none⟩ = some (.int .u32 (fr.regs[ka] : Int)) ∧ w'.cell? ⟨w.heap.size + 2, kb, none⟩ = some (.int .u32 (fr.regs[kb] : Int))))
        (first | with_reducible exact HD0.out | with_reducible exact HAL.out _ _ (by assumption) hb9)
        (first | (go_at_call 56; refine (hop _).mono ?_; rintro e w9 ⟨rfl, hb9⟩))
      all_goals
        have hbw := And.left (by assumption : Below w8.heap.size w8 _ ∧ _ ∧ _ ∧ _ ∧ _ ∧ _)
        have hkp : Kept (fun _ => False) w8 _ := Below.kept hbw _
        have hRS9 := HRS8.out.on (HRS8.out.rm.keep hkp (fun e => e) (fun _ _ e => e)) (hkp.mono fun _ _ e => e.elim) (fun _ e => .inl e)
        have HR9 : Hid _ := fun i => HREL.out i _ hRS9
        obtain ⟨p0, p1, p2, p3, p4, p5, p6, p7, p8⟩ := irB_at ((hkp.block _ (lt_of_some HX8.out) (fun e => e)).trans HX8.out)
        have c1 := row_cell hRS9.g hkl
        have f1 := row_free hRS9.g kd
        rw [HKD.out] at p2
        clear hRS9 hkp hbw hop HREL c2 c3 q0 q1 q3 q4 p0 p1 p3 p4 p5 p6 p7 p8 HRS8 HD0 HAL
        go_wp2_with fail
        go_roundg g'
        case measure => omega
        case rel => exact ⟨_, rfl, by omega, HR9.out _ (by go_num)⟩
    have k7 : x.kind = 7 := by
      obtain ⟨n, e, h1, h2⟩ := known_kind hix.known
      omega
    have hdw := hix.writes (by simp [writesB, k7])
    obtain ⟨kd, hkd⟩ : ∃ kd : Nat, x.d = kd := ⟨x.d.toNat, by omega⟩
    have hrl : fr.regs.length = nr := by have := hRS8.rl; have h2 := HNR.out; omega
    have hkl : kd < fr.regs.length := by have := hRS8.rl; omega
    have hkn := hix.known
    have hx6 : x.args.length ≤ 6 := by
      simp [knownB, k7] at hkn
      exact hkn.1
    have hra8 : kInt.row w8 (fun _ => True) ga x.args := kInt.row_mono (by decide) hra fun j _ hlt => ⟨trivial, HOLD.out _ _ _ w8 hRS8 j hlt⟩
    have hbP : Below wP.heap.size wP w8 := ⟨hRS8.kept.os.trans hb.os, hRS8.kept.tape.trans hb.tape, hRS8.kept.output.trans hb.output, Nat.le_trans hb.size hRS8.kept.size, HOLD.out _ _ _ w8 hRS8⟩
    have hcl := rcall_any (ih g' (by omega)) hrow hPl hR hwR x ga gc (w.heap.size + 2) d { st' with left := m } { fr with next := fr.next + 1 } v' w8 hra8 hx6 (fun r hr => by have := hix.reads r (by simp [readsL, k7]; exact hr); have h2 := hRS8.rl; exact ⟨this.1, by show r < (fr.regs.length : Int); omega⟩) hRS8.g hRS8.regs hd hmg hw0 hRS8.rm hbP
    have hql : (callR P (runF P g') d x { fr with next := fr.next + 1 } { st' with left := m }).2.left ≤ m := callR_left (runF_left P g')
    have h1 := HRUN.out
    have h2 := HFIT.out
    rw [doIr_7 k7] at h1 h2
    generalize callR P (runF P g') d x { fr with next := fr.next + 1 } { st' with left := m } = q at hcl hql h1 h2
    have hcl' : Calls Try.prog 57 #[.pointer (some ⟨R, 0, none⟩), .agg #[.int .i64 x.kind, .int .i64 x.op, .int .i64 x.d, .int .i64 x.a, .int .i64 x.b, .int .i64 x.c, .int .u32 (x.n : Int), .string (bs x.name), .slice ga x.args.length gc], .slice (some ⟨w.heap.size + 2, 0, none⟩) nr nr, .int .i64 (d : Int)] w8 fun e w' => ∃ (o : Nat) (v9 : Value), e = .returned (.int .u32 (o : Int)) ∧ o < 4294967296 ∧ RM R (.slice a P.length cp) q.2 v9 w' ∧ Kept (TR R v') w8 w' ∧ Fresh w8 v' v9 ∧ (q.2.wrong = 0 → q.1 = { fr with next := fr.next + 1, regs := fr.regs.set x.d.toNat o }) := by
      rw [← hrl]; exact hcl
    have HKD : Hid _ := hkd
    have H1 : Hid _ := h1
    have H2 : Hid _ := h2
    have HQL : Hid _ := hql
    have t1 : (x.kind == 1) = false := by simp; omega
    have t2 : (x.kind == 2) = false := by simp; omega
    have t3 : (x.kind == 3) = false := by simp; omega
    have t4 : (x.kind == 4) = false := by simp; omega
    have t5 : (x.kind == 5) = false := by simp; omega
    have t6 : (x.kind == 6) = false := by simp; omega
    have t7 : (x.kind == 7) = true := by simp; omega
    have j0 : (0 : Int) ≤ (kd : Int) := by omega
    have j1 : (kd : Int) < (nr : Int) := by omega
    clear hcl h1 h2 hql hRS8 hX8 HRUN HFIT hix ih hra8 hbP hkn k1 k2 k3 k4 k5 k6 k7 k8 k9 k10 hkd hrl HOLD
    go_upto_region 28 with (first | (go_at_call 57; refine hcl'.mono ?_; rintro e w9 ⟨o9, v9, rfl, ho9, hr9, hk9, hf9, hz9⟩))
    have hRS9 := (HRS8.out.frame (fr.next + 1)).on hr9 hk9 hf9
    have HREL : Hid (∀ i, i = .int .i64 ((fr.next + 1 : Nat) : Int) → Rel w v R w.heap.size (.slice a P.length cp) P d c (coO c pa pc (some ⟨b, o, none⟩) lc) fin g' i (w9.setCell ⟨w.heap.size + 2, kd, none⟩ (.int .u32 (o9 : Int)))) := fun i hi => by
      by_cases hq0 : q.2.wrong = 0
      · have hq1 := hz9 hq0
        rw [HKD.out, Int.toNat_natCast] at hq1
        have h1 := H1.out
        have h2 := H2.out
        rw [hq1] at h1 h2
        exact Rel.step (q := (_, _)) (hRS9.reg kd o9 ho9) h1 h2 hen (Nat.lt_of_le_of_lt HQL.out hmg) hq0 hi
      · exact ⟨_, _, _, hRS9.reg kd o9 ho9, .inl ⟨hq0, by rw [← H1.out, runF_stop _ _ _ _ _ _ (.inr hq0)]⟩⟩
    have hX9 := (hk9.block _ (lt_of_some HX8.out) (fun e => by rcases e with e | e; exact HRX.out e; exact HVX.out e)).trans HX8.out
    obtain ⟨p0, p1, p2, p3, p4, p5, p6, p7, p8⟩ := irB_at hX9
    have c1 := row_cell hRS9.g (k := kd) hkl
    have f1 := row_free hRS9.g kd
    rw [HKD.out] at p2
    clear hRS9 hr9 hk9 hf9 hz9 hcl' hX9 H1 H2 HQL HRS8 q0 q1 q2 q3 q4 q5 q6 q7 q8 p0 p1 p3 p4 p5 p6 p7 p8
    go_wp2_with fail
    go_roundg g'
    case measure => omega
    case rel => exact ⟨_, rfl, by omega, HREL.out _ (by go_num)⟩
end Go.Proofs.Ytndmkfmpdnoliaa
