/- CONTRACT of the reference's known; facts in memory. -/
import Derived.Test.YtclajapdbphlbaaGRBeg
import Derived.Test.YtclajapdbphlbaaIRef2
import Derived.Test.YtclajapdbphlbaaGLit
namespace Go.Proofs.Ytclajapdbphlbaa
open Go.ChangeShapes Go.WideShapes Go.ChangeAt Go.RowKit

/-- Facts. -/
def kFa : Kind (Option Nat) where
  n := 2
  C := fun _ _ cs v => cs = [.bool v.isSome, .int .u32 ((v.getD 0 : Nat) : Int)] ∧ v.getD 0 < 4294967296
  len := fun h => by rw [h.1]; rfl
  one := fun h => by rw [h.1]; simp [Value.oneCell']
  mono := fun h _ => h
/-- The value of a fact. -/
abbrev faV (v : Option Nat) : Value := .agg #[.bool v.isSome, .int .u32 ((v.getD 0 : Nat) : Int)]
theorem fa_at {w : World} {S : Nat → Prop} {a : Option Addr} {l : List (Option Nat)} (h : kFa.row w S a l) (k : Nat) (hk : k < l.length) :
    ∃ b o, a = some ⟨b, o, none⟩ ∧ S b ∧ b < w.heap.size ∧ w.cell? ⟨b, o + k * 2, none⟩ = some (.bool l[k].isSome) ∧ w.cell? ⟨b, o + k * 2 + 1, none⟩ = some (.int .u32 ((l[k].getD 0 : Nat) : Int)) := by
  obtain ⟨b, o, cs, rfl, hS, hc, rfl, hlt⟩ := kFa.row_at h k l[k] (List.getElem?_eq_getElem hk)
  have h0 := hc 0 _ rfl
  have h1 := hc 1 _ rfl
  exact ⟨b, o, rfl, hS, World.block_lt_of_cell? w _ h0, h0, h1⟩
theorem results_row1 {fn : Func} {tmps : Array Value} {W : World} {b K : Nat} {ty : TypeId} {cs : Array Value} (hr : fn.results = #[ResultVar.cell K ty]) (ht : tmps.getD K undef = .pointer (some ⟨b, 0, none⟩))
    (hl : (loadVar ty ⟨b, 0, none⟩).run Try.prog W = .ok (.agg cs) W) : (results fn tmps).run Try.prog W = .ok (.agg cs) W := by
  simp only [Array.getD_eq_getD_getElem?] at ht
  simp only [results, hr]
  simp [ht, asAddr, hl]
theorem size_fa : (Try.prog.info? 58).map (·.size) = some 2 := by kernel_rfl
theorem load_fa {W : World} {b : Nat} {cs : Array Value} {t : TypeId} {f : Nat × Nat} (h : W.heap[b]? = some (.cells cs t f)) (hs : cs.size = 2) : (loadVar 58 ⟨b, 0, none⟩).run Try.prog W = .ok (.agg cs) W :=
  run_loadVar_row W b t 58 cs f _ h Try.underlying58 rfl (by rw [hs]; exact size_fa)
theorem set2F {w : World} {b : Nat} {x0 x1 y0 y1 : Value} {e : TypeId} {f : Nat × Nat} (h : w.heap[b]? = some (.cells #[x0, x1] e f)) : ((w.setCell ⟨b, 0, none⟩ y0).setCell ⟨b, 1, none⟩ y1).heap[b]? = some (.cells #[y0, y1] e f) := setCell_at (setCell_at h)
theorem two {w : World} {b : Nat} {x0 x1 : Value} {t : TypeId} (h : w.heap[b]? = some (.cells #[x0, x1] t)) : w.cell? ⟨b, 0, none⟩ = some x0 ∧ w.cell? ⟨b, 1, none⟩ = some x1 := by
  refine ⟨?_, ?_⟩ <;> simp [World.cell?, h]
abbrev faZ : Obj := .cells #[.bool false, .int .u32 0] 58
theorem rKn_step (l : List Ir) (f : List (Option Nat)) (k : Nat) (hk : k < l.length) (hf : k < f.length) (r : Int) : rKn l f (k + 1) r = if rBeg l (k + 1) then none else if writesB l[k] && l[k].d == r then f[k] else rKn l f k r := by
  rw [rKn, List.getD_eq_getElem?_getD, List.getElem?_eq_getElem hk, List.getD_eq_getElem?_getD, List.getElem?_eq_getElem hf]; rfl
set_option maxRecDepth 100000 in
set_option maxHeartbeats 4000000 in
theorem refKn_any {S T : Nat → Prop} (x : Co) (pa : Option Addr) (pc : Nat) (la : Option Addr) (lc : Nat) (fa : Option Addr) (f : List (Option Nat)) (fc : Nat) (i : Nat) (r : Int) (w : World) (h : kIr.row w S la x.l) (hf : kFa.row w T fa f) (hl : x.l.length ≤ 1000000) (hi : i ≤ x.l.length) (hfi : f.length = i) :
    Calls Try.prog 43 #[.agg #[.string (bs x.name), .slice pa x.ps.length pc, .int .i64 x.regs, .int .i64 x.cells, .slice la x.l.length lc], .slice fa i fc, .int .i64 (i : Int), .int .i64 r] w fun e w' => e = .returned (faV (rKn x.l f i r)) ∧ Below w.heap.size w w' := by
  have hx2 := two_box' w (coO x pa pc la lc) faZ
  have HL : Hid _ := hx2
  clear hx2
  go_enter Try.func43, Try.ntmps43
  go_upto_region 2 with fail
  generalize World.alloc (World.alloc w _) _ = w1 at HL ⊢
  obtain ⟨hx0, hz0, hb0, hs0⟩ := HL.out
  have HX : Hid _ := hx0
  have HZ : Hid _ := hz0
  have HB : Hid _ := hb0
  have hlx := lt_of_some hx0
  have hlz := lt_of_some hz0
  clear hx0 hz0 hb0 HL
  go_loopw [9] (fun k wr => ∃ m : Nat, m ≤ i ∧ k = .int .i64 m ∧ rKn x.l f i r = rKn x.l f m r ∧ Below w1.heap.size w1 wr) (fun k _ => (intOf k).toNat)
  case atStart => exact ⟨i, Nat.le_refl _, rfl, rfl, Below.refl _ _⟩
  case round =>
    obtain ⟨m, hm, rfl, hq, hbl⟩ := hrel
    have HQ : Hid _ := hq
    have hxr := (hbl.block w.heap.size hlx).trans HX.out
    have hzr := (hbl.block (w.heap.size + 1) hlz).trans HZ.out
    have HZR : Hid _ := hzr
    have HXR : Hid _ := hxr
    have hb := bl_then HB.out hbl
    have HBR : Hid _ := hb
    have HBL : Hid (Below w1.heap.size w1 wr) := hbl
    obtain ⟨k0, k1, k2, k3, k4⟩ := five hxr
    obtain ⟨z0, z1⟩ := two hzr
    have hfz := brow_free hzr
    cases m with
    | zero =>
      have HN : Hid (rKn x.l f i r = none) := by show _ = _; rw [HQ.out]; rfl
      clear hq hbl hb hxr hzr
      go_wp2_with fail
      refine bodyPost_ret_by (results_row1 Try.results43 rfl (load_fa (set2F HZR.out) rfl)) rfl ?_
      exact ⟨by rw [HN.out]; rfl, bl_set (bl_set HBR.out _ _ _ (by omega)) _ _ _ (by omega)⟩
    | succ k =>
      have hkl : k < x.l.length := by omega
      have hkf : k < f.length := by omega
      have hbe := refBegins_any x pa pc la lc (k + 1) wr (kIr.row_mono (T := S) (by decide) h fun b hb0 hlt => ⟨hb0, hb.block b hlt⟩) hl (by omega)
      have HST : Hid (rKn x.l f i r = if rBeg x.l (k + 1) then none else if writesB x.l[k] && x.l[k].d == r then f[k] else rKn x.l f k r) := by show _ = _; rw [HQ.out, rKn_step x.l f k hkl hkf r]
      have hp : (0 : Int) < ((k + 1 : Nat) : Int) := by omega
      have hkc : (((k + 1 : Nat) : Int)) - 1 = (k : Int) := by omega
      generalize hkk : (((k + 1 : Nat) : Int)) = kk at hbe hp hkc ⊢
      rcases hbg : rBeg x.l (k + 1) with _ | _ <;> rw [hbg] at hbe HST
      · have HST2 : Hid (rKn x.l f i r = if writesB x.l[k] && x.l[k].d == r then f[k] else rKn x.l f k r) := HST.out
        obtain ⟨b, o, ga, gc, rfl, _, hbk, hia, _, _, _⟩ := ir_at h k hkl
        obtain ⟨fb, fo, rfl, _, hfb, f0, f1⟩ := fa_at hf k hkf
        have hwr := fun w' => refWrites_any x.l[k] ga gc w'
        have HIA : Hid _ := hia
        have HF0 : Hid _ := f0
        have HF1 : Hid _ := f1
        unfold irV at hwr
        generalize x.l[k] = y at HIA hwr HST2
        generalize f[k] = fk at HF0 HF1 HST2
        have hk0 : (0 : Int) ≤ (k : Int) := by omega
        have hk1 : (k : Int) < (x.l.length : Int) := by omega
        have hk2 : (k : Int) < (i : Int) := by omega
        clear hq hbl hb hxr hzr HST hbg hia f0 f1
        go_upto_region 4 with (first | (go_at_call 68; refine hbe.mono ?_; rintro e w3 ⟨rfl, hb3⟩))
        have HB3 : Hid _ := bl_then HBR.out hb3
        have HX3 : Hid _ := (hb3.block _ (lt_of_some HXR.out)).trans HXR.out
        have HZ3 : Hid _ := (hb3.block _ (lt_of_some HZR.out)).trans HZR.out
        have HBL3 : Hid (Below w1.heap.size w1 w3) := bl_then HBL.out hb3
        clear k0 k1 k2 k3 k4 z0 z1 hfz hbe hb3
        obtain ⟨k0, k1, k2, k3, k4⟩ := five HX3.out
        obtain ⟨e0, e1, e2, e3, e4, e5, e6, e7, e8⟩ := HIA.out.keep (HB3.out.block b hbk)
        have hy4 := heap_alloc_new w3 (irB y ga gc)
        have hbb := bl_alloc (Below.refl w3.heap.size w3) (irB y ga gc)
        have HZ4 : Hid _ := (hbb.block _ (lt_of_some HZ3.out)).trans HZ3.out
        have HB4 : Hid _ := bl_then HB3.out hbb
        have HBL4 : Hid _ := bl_then HBL3.out hbb
        have HY4 : Hid _ := hy4
        go_upto_region 5 with fail
        generalize World.alloc w3 _ = w4 at HZ4 HB4 HBL4 HY4 ⊢
        clear hy4 hbb k0 k1 k2 k3 k4 e0 e1 e2 e3 e4 e5 e6 e7 e8 HX3 HZ3 HBL3 HIA
        obtain ⟨e0, e1, e2, e3, e4, e5, e6, e7, e8⟩ := irB_at HY4.out
        have hw4 := hwr w4
        rcases hwb : writesB y with _ | _ <;> rw [hwb] at hw4 HST2
        · have HN : Hid (rKn x.l f i r = rKn x.l f k r) := HST2.out
          go_wp2_with (first | (go_at_call 67; refine hw4.mono ?_; rintro e w5 ⟨rfl, hb5⟩))
          go_roundw
          case rel => exact ⟨k, by omega, rfl, HN.out, bl_then HBL4.out hb5⟩
          case measure => simp [intOf]; omega
        · by_cases hd : y.d = r
          · have HN : Hid (rKn x.l f i r = fk) := by show _ = _; rw [HST2.out, hd]; simp
            rw [hd] at hw4
            go_wp2_with (first | (go_at_call 67; refine hw4.mono ?_; rintro e w5 ⟨rfl, hb5⟩; obtain ⟨d0, d1, d2, d3, d4, d5, d6, d7, d8⟩ := irB_at ((hb5.block _ (lt_of_some HY4.out)).trans HY4.out); have hz5 := (hb5.block _ (lt_of_some HZ4.out)).trans HZ4.out; obtain ⟨z0, z1⟩ := two hz5; have hfz5 := brow_free hz5; have hB5 := bl_then HB4.out hb5; have g0 := (hB5.cell (p := ⟨fb, fo + k * 2, none⟩) hfb).trans HF0.out; have g1 := (hB5.cell (p := ⟨fb, fo + k * 2 + 1, none⟩) hfb).trans HF1.out))
            refine bodyPost_ret_by (results_row1 Try.results43 rfl (load_fa (set2F hz5) rfl)) rfl ?_
            exact ⟨by rw [HN.out], bl_set (bl_set hB5 _ _ _ (by omega)) _ _ _ (by omega)⟩
          · have hd' : (y.d == r) = false := by simpa using hd
            have HN : Hid (rKn x.l f i r = rKn x.l f k r) := by show _ = _; rw [HST2.out, hd']; rfl
            go_wp2_with (first | (go_at_call 67; refine hw4.mono ?_; rintro e w5 ⟨rfl, hb5⟩; obtain ⟨d0, d1, d2, d3, d4, d5, d6, d7, d8⟩ := irB_at ((hb5.block _ (lt_of_some HY4.out)).trans HY4.out)))
            go_roundw
            case rel => exact ⟨k, by omega, rfl, HN.out, bl_then HBL4.out hb5⟩
            case measure => simp [intOf]; omega
      · have HN : Hid (rKn x.l f i r = none) := HST.out
        clear hq hbl hb hxr hzr HST hbg
        go_wp2_with (first | (go_at_call 68; refine hbe.mono ?_; rintro e w3 ⟨rfl, hb3⟩; have hz3 := (hb3.block _ (lt_of_some HZR.out)).trans HZR.out; obtain ⟨z0, z1⟩ := two hz3; have hfz3 := brow_free hz3))
        refine bodyPost_ret_by (results_row1 Try.results43 rfl (load_fa (set2F hz3) rfl)) rfl ?_
        exact ⟨by rw [HN.out]; rfl, bl_set (bl_set (bl_then HBR.out hb3) _ _ _ (by omega)) _ _ _ (by omega)⟩
end Go.Proofs.Ytclajapdbphlbaa
