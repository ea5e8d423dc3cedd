/- CONTRACT of the reference's Drop. -/
import Derived.Test.YtndmkfmpdnoliaaDRDead
import Derived.Test.YtndmkfmpdnoliaaDDrop
import Derived.Test.YtndmkfmpdnoliaaIRRight
import Derived.Test.YtndmkfmpdnoliaaIApp2
namespace Go.Proofs.Ytndmkfmpdnoliaa
open Go.ChangeShapes Go.WideShapes Go.ChangeAt Go.RowKit

/-- How far the reference's Drop has come. -/
structure RDAt (w : World) (c : Co) (pa : Option Addr) (pc : Nat) (la : Option Addr) (lc : Nat) (Bd Bo k : Nat) (x : Option Addr) (vc : Nat) (wr : World) : Prop where
  dead : wr.heap[Bd]? = some (.cells (bvs (deadL c.l)) 4)
  box : wr.heap[w.heap.size]? = some (coO c pa pc la lc)
  res : wr.heap[w.heap.size + 1]? = some coZ
  out : wr.heap[Bo]? = some (.cells #[.string (bs c.name), .slice pa c.ps.length pc, .int .i64 c.regs, .int .i64 c.cells, .slice x (live (deadL c.l) k) vc] 39)
  own : ∃ cs, wr.ownsRow (Bo + 1) 50 9 (.slice x (live (deadL c.l) k) vc) (live (deadL c.l) k) cs ∧ kIr.lay wr (fun j => j < w.heap.size) cs ((freeL c.l).take (live (deadL c.l) k))
  below : Below w.heap.size w wr
  lo : w.heap.size + 2 ≤ Bd
  hi : Bd < Bo
theorem RDAt.on {w wr w2 : World} {c : Co} {pa : Option Addr} {pc : Nat} {la : Option Addr} {lc Bd Bo k : Nat} {x : Option Addr} {vc : Nat} (h : RDAt w c pa pc la lc Bd Bo k x vc wr) (hb : Below wr.heap.size wr w2) : RDAt w c pa pc la lc Bd Bo k x vc w2 := by
  obtain ⟨cs, h1, h2⟩ := h.own
  exact ⟨(hb.block _ (lt_of_some h.dead)).trans h.dead, (hb.block _ (lt_of_some h.box)).trans h.box, (hb.block _ (lt_of_some h.res)).trans h.res, (hb.block _ (lt_of_some h.out)).trans h.out,
    ⟨cs, own_kept h1 (Below.kept hb (fun _ => False)) (fun _ _ e => e), kIr.lay_mono h2 fun j hj hlt => ⟨hj, hb.block j hlt⟩⟩, bl_then h.below hb, h.lo, h.hi⟩
theorem RDAt.skip {w wr : World} {c : Co} {pa : Option Addr} {pc : Nat} {la : Option Addr} {lc Bd Bo k : Nat} {x : Option Addr} {vc : Nat} (h : RDAt w c pa pc la lc Bd Bo k x vc wr) (hl : live (deadL c.l) (k + 1) = live (deadL c.l) k) : RDAt w c pa pc la lc Bd Bo (k + 1) x vc wr := by
  obtain ⟨h1, h2, h3, h4, h5, h6, h7, h8⟩ := h
  rw [← hl] at h4 h5
  exact ⟨h1, h2, h3, h4, h5, h6, h7, h8⟩
theorem RDAt.grown {w wr w1 : World} {o : Obj} {c : Co} {pa : Option Addr} {pc : Nat} {la : Option Addr} {lc Bd Bo k m : Nat} {x : Option Addr} {vc : Nat} (h : RDAt w c pa pc la lc Bd Bo k x vc wr) (hm : live (deadL c.l) k = m) (hg : (wr.alloc o).grownBy w1 (Value.slice x m vc).ownBlock) :
    w1.heap[Bo]? = some (.cells #[.string (bs c.name), .slice pa c.ps.length pc, .int .i64 c.regs, .int .i64 c.cells, .slice x m vc] 39) := by
  subst hm
  obtain ⟨cs, h1, _⟩ := h.own
  have hb := lt_of_some h.out
  refine (hg.block _ (by simp; omega) fun e => ?_).trans ((heap_alloc_old wr o hb).trans h.out)
  have := (World.ownsRow.lt h1 Bo e.symm).1
  omega
theorem RDAt.push {w wr w1 : World} {o : Obj} {c : Co} {pa : Option Addr} {pc : Nat} {la : Option Addr} {lc Bd Bo k m : Nat} {x : Option Addr} {vc : Nat} {y ga : Option Addr} {c1 gc : Nat} {cs : List Value} {z : Ir} (h : RDAt w c pa pc la lc Bd Bo k x vc wr) (hm : live (deadL c.l) k = m) (hl : live (deadL c.l) (k + 1) = m + 1)
    (hz : (freeL c.l)[m]? = some z) (hn : z.n < 4294967296) (hc : z.args.length ≤ gc) (hr : kInt.row wr (fun j => j < w.heap.size) ga z.args) (hcs : kIr.lay wr (fun j => j < w.heap.size) cs ((freeL c.l).take m))
    (hown1 : w1.ownsRow (Bo + 1) 50 9 (.slice y (m + 1) c1) (m + 1) (cs ++ irCells z ga gc)) (hg : (wr.alloc o).grownBy w1 (Value.slice x m vc).ownBlock) (hat : (Value.slice y (m + 1) c1).ownBlock = (Value.slice x m vc).ownBlock ∨ (Value.slice y (m + 1) c1).ownBlock = some (wr.alloc o).heap.size) :
    RDAt w c pa pc la lc Bd Bo (k + 1) y c1 (w1.setCell ⟨Bo, 4, none⟩ (.slice y (m + 1) c1)) := by
  have hgr := h.grown hm hg
  obtain ⟨h1, h2, h3, h4, ⟨cs0, h5, _⟩, h6, h7, h8⟩ := h
  rw [hm] at h5
  have hlv := fun g hg => World.ownsRow.lt h5 g hg
  have hb := lt_of_some h4
  have hk1 : Kept (fun j => (Value.slice x m vc).ownBlock = some j) wr w1 := ((Kept.alloc wr o (fun _ => False)).mono fun _ _ e => e.elim).trans (Kept.of_grown hg)
  have hset := Kept.set w1 Bo 4 (.slice y (m + 1) c1)
  have hold : ∀ j, j < Bo → (w1.setCell ⟨Bo, 4, none⟩ (.slice y (m + 1) c1)).heap[j]? = wr.heap[j]? := fun j hj =>
    (setCell_other (by omega)).trans (hk1.block j (by omega) fun e => by have := (hlv j e).1; omega)
  refine ⟨(hold _ h8).trans h1, (hold _ (by omega)).trans h2, (hold _ (by omega)).trans h3, ?_, ⟨cs ++ irCells z ga gc, ?_, ?_⟩, ?_, h7, h8⟩
  · rw [setCell_at hgr, hl]; rfl
  · rw [hl]
    refine own_kept hown1 hset fun g hg2 e => ?_
    rcases hat with e1 | e1
    · rw [e1] at hg2; have := (hlv g hg2).1; omega
    · rw [e1] at hg2; have := Option.some.inj hg2; simp at this; omega
  · rw [hl, List.take_add_one, hz]
    exact kIr.lay_snoc ⟨ga, gc, rfl, hc, hn, kInt.row_mono (by decide) hr fun j hj _ => ⟨hj, hold j (by omega)⟩⟩ (kIr.lay_mono hcs fun j hj _ => ⟨hj, hold j (by omega)⟩)
  · refine Kept.to_below (((Below.kept h6 (fun i => w.heap.size ≤ i)).trans (hk1.mono fun i _ e => ?_)).trans (hset.mono fun i _ e => ?_)) fun _ hi => hi
    · have := (hlv i e).1; omega
    · omega
/-- What the reference's Drop tells. -/
def RDropPost (w : World) (x : Co) (e : Ending) (w' : World) : Prop :=
  ∃ qa qc ra rc, e = .returned (.tuple #[coV (dropT x).1 qa qc ra rc, .int .i64 (dropT x).2]) ∧ CoIn w' (fun _ => True) (dropT x).1 qa qc ra rc ∧ Below w.heap.size w w'
set_option maxRecDepth 100000 in
set_option maxHeartbeats 8000000 in
theorem refDrop_any (c : Co) (pa : Option Addr) (pc : Nat) (la : Option Addr) (lc : Nat) (w : World) (hin : CoIn w (fun _ => True) c pa pc la lc) (hok : CoOk c) (hd64 : D64 c.l) (hps : c.ps.length ≤ 1000000) (hlm : c.l.length ≤ 1000000) :
    Calls Try.prog 18 #[.agg #[.string (bs c.name), .slice pa c.ps.length pc, .int .i64 c.regs, .int .i64 c.cells, .slice la c.l.length lc]] w fun e w' => RDropPost w c e w' := by
  obtain ⟨h1, h2, hb0, _⟩ := two_box' w (coO c pa pc la lc) coZ
  have hri := refRight_any c pa pc la lc ((w.alloc (coO c pa pc la lc)).alloc coZ) (coIn_on hin hb0) hok hps (by omega)
  have H1 : Hid _ := h1
  have H2 : Hid _ := h2
  have HB0 : Hid _ := hb0
  clear hb0 h1 h2
  unfold coV at hri
  by_cases hr : (rightR c).1 = 0
  · have hr' : ((rightR c).1 == 0) = true := by simpa using hr
    have HF : Hid (dropT c = (dropC c, 0)) := dropT_ok hr
    have hfo := freeOk_of hr hok hd64
    rw [hr] at hri
    generalize (rightR c).2 = at0 at hri
    clear hr hr'
    go_enter Try.func18, Try.ntmps18
    go_upto_region 4 with (first | (go_at_call 29; refine hri.mono ?_; rintro e w2 ⟨rfl, hb2⟩; obtain ⟨k0, k1, k2, k3, k4⟩ := five ((hb2.block _ (lt_of_some H1.out)).trans H1.out)))
    have HB2 : Hid _ := bl_then HB0.out hb2
    have HX2 : Hid _ := (hb2.block _ (lt_of_some H1.out)).trans H1.out
    have HZ2 : Hid _ := (hb2.block _ (lt_of_some H2.out)).trans H2.out
    have hde := refDead_any (S := fun _ => True) c pa pc la lc w2 (coIn_on hin HB2.out).l hlm (fun x hx => (hok.ins x hx).2)
    clear hri hb2
    go_upto_region 5 with (first | (go_at_call 35; refine hde.mono ?_; rintro e w3 ⟨⟨Bd, cd, rfl, hBd, hdd⟩, hb3⟩))
    have HB3 : Hid _ := bl_then HB2.out hb3
    have HX3 : Hid (w3.heap[w.heap.size]? = some (coO c pa pc la lc)) := (hb3.block _ (lt_of_some HX2.out)).trans HX2.out
    have HZ3 : Hid (w3.heap[w.heap.size + 1]? = some coZ) := (hb3.block _ (lt_of_some HZ2.out)).trans HZ2.out
    have HD3 : Hid _ := hdd
    have hlo : w.heap.size + 2 ≤ Bd := by have := lt_of_some HZ2.out; omega
    obtain ⟨k0, k1, k2, k3, k4⟩ := five HX3.out
    clear hde hb3 hdd H1 H2 HB0 HB2 HX2 HZ2
    go_upto_region 6 with fail
    have hbx := heap_alloc_new w3 (coO c pa pc la lc)
    have hB4 : Below w3.heap.size w3 (w3.alloc (coO c pa pc la lc)) := bl_alloc (Below.refl _ _) _
    have hBd3 := lt_of_some HD3.out
    generalize World.alloc w3 _ = w4 at hbx hB4 ⊢
    obtain ⟨Bo, hBo⟩ : ∃ Bo, w3.heap.size = Bo := ⟨_, rfl⟩
    rw [hBo] at hbx ⊢
    have hset := setCell_at (o := 4) (v := .slice none 0 0) hbx
    have hB5 := bl_then HB3.out hB4
    have hfz := brow_free hbx 4
    have hx4 := (hB4.block _ (lt_of_some HX3.out)).trans HX3.out
    have hz4 := (hB4.block _ (lt_of_some HZ3.out)).trans HZ3.out
    have hd4 := (hB4.block _ (lt_of_some HD3.out)).trans HD3.out
    have HA0 : Hid (RDAt w c pa pc la lc Bd Bo 0 none 0 (w4.setCell ⟨Bo, 4, none⟩ (.slice none 0 0))) := by
      have e0 : live (deadL c.l) 0 = 0 := live_zero _
      refine ⟨(setCell_other (by omega)).trans hd4, (setCell_other (by omega)).trans hx4, (setCell_other (by omega)).trans hz4, ?_, ⟨[], ?_, ?_⟩, bl_set hB5 Bo 4 (.slice none 0 0) (by omega), hlo, by omega⟩
      · rw [hset, e0]; rfl
      · rw [e0]; exact World.ownsRow_nil _ _ _ _
      · rw [e0]; rfl
    clear HB3 HX3 HZ3 HD3 hset hB5 hB4 hx4 hz4 hd4 k0 k1 k2 k3 k4
    obtain ⟨y0, y1, y2, y3, y4⟩ := five hbx
    go_upto_region 8 with fail
    generalize World.setCell w4 _ _ = w5 at HA0 ⊢
    clear hfz hbx hBo hBd3 hBd y0 y1 y2 y3 y4
    go_loopw [8] (fun i wr => ∃ (k : Nat) (x : Option Addr) (vc : Nat), k ≤ c.l.length ∧ i = .int .i64 k ∧ RDAt w c pa pc la lc Bd Bo k x vc wr) (fun i _ => c.l.length - (intOf i).toNat)
    case atStart => exact ⟨0, none, 0, Nat.zero_le _, rfl, HA0.out⟩
    case round =>
      obtain ⟨wO, hwO⟩ : ∃ wO, wO = wr := ⟨wr, rfl⟩
      subst hwO
      obtain ⟨k, x, vc, hk, rfl, hA⟩ := hrel
      have HA : Hid _ := hA
      obtain ⟨k0, k1, k2, k3, k4⟩ := five hA.box
      by_cases hlt : k < c.l.length
      · have hk0 : (0 : Int) ≤ (k : Int) := by omega
        have hk1 : (k : Int) < (c.l.length : Int) := by omega
        have hdl := deadL_len c.l
        have hde := brow_cell hA.dead (k := k) (by omega)
        have HLV : Hid _ := live_succ (deadL c.l) k (by omega)
        have HDG : Hid _ := deadL_get c.l k hlt
        have HFA : Hid (deadX (rdL (c.l.drop (k + 1))) c.l[k] = false → (freeL c.l)[live (deadL c.l) k]? = some (jmpX (live (deadL c.l)) c.l[k])) := fun hd => free_at c.l k hlt hd
        have hjk := hfo.jump c.l[k] (List.getElem_mem hlt)
        obtain ⟨b2, o2, ga, gc, rfl, _, hb2, hia, hgc, hn, hrow⟩ := ir_at hin.l k hlt
        obtain ⟨e0, e1, e2, e3, e4, e5, e6, e7, e8⟩ := hia.keep (hA.below.block b2 hb2)
        have HR : Hid (kInt.row wO (fun j => j < w.heap.size) ga c.l[k].args) := kInt.row_mono (by decide) hrow fun j hj hl2 => ⟨hl2, hA.below.block j hl2⟩
        have HBL : Hid _ := hA.below
        generalize deadX (rdL (c.l.drop (k + 1))) c.l[k] = dx at HDG HFA
        generalize (deadL c.l)[k] = dd at hde HLV HDG
        generalize c.l[k] = u at e0 e1 e2 e3 e4 e5 e6 e7 e8 hgc hn HR HFA hjk
        clear hia hrow hA HA0
        cases dd
        · have hdx : dx = false := HDG.out.symm
          have HZ0 : Hid _ := HFA.out hdx
          have HL1 : Hid (live (deadL c.l) (k + 1) = live (deadL c.l) k + 1) := HLV.out
          have HN : Hid _ := hn
          have HC : Hid _ := hgc
          clear hdx HLV HDG HFA
          go_upto_region 12 with fail
          have hbx := heap_alloc_new wO (irB u ga gc)
          have hb1 := bl_alloc (Below.refl wO.heap.size wO) (irB u ga gc)
          generalize World.alloc wO _ = w5 at hbx hb1 ⊢
          have HA5 : Hid _ := HA.out.on hb1
          have HB1 : Hid _ := hb1
          have HBX : Hid _ := hbx
          obtain ⟨q0, q1, q2, q3, q4, q5, q6, q7, q8⟩ := irB_at hbx
          have hfz := brow_free hbx
          have HBoL : Hid (Bo < wO.heap.size) := lt_of_some HA.out.out
          clear hbx hb1 e0 e1 e2 e3 e4 e5 e6 e7 e8 hde k0 k1 k2 k3 k4
          by_cases hj : u.kind = 8 ∨ u.kind = 9
          · obtain ⟨j0, j1⟩ := hjk hj
            obtain ⟨cx, hcx⟩ : ∃ cx : Nat, u.c = cx := ⟨u.c.toNat, by omega⟩
            rw [hcx] at q5
            have hcl : cx < c.l.length := by omega
            have HJ : Hid _ := hj
            have HCX : Hid _ := hcx
            have hk89 : u.kind = 8 ∨ (u.kind == 8) = false ∧ u.kind = 9 := by
              rcases hj with e | e
              · exact .inl e
              · exact .inr ⟨by rw [e]; rfl, e⟩
            clear hj hjk j0 j1 hcx
            have HDW : Hid _ := HA5.out.dead
            rcases hk89 with h8 | ⟨g8, h9⟩
            all_goals
              go_upto_region 15 with fail
              go_loopw [10, 11] (fun n q wr => ∃ p : Nat, p ≤ cx ∧ q = .int .i64 p ∧ n = .int .i64 (live (deadL c.l) p : Nat) ∧ wr = w5) (fun _ q _ => cx - (intOf q).toNat)
              case atStart => exact ⟨0, Nat.zero_le _, rfl, by rw [live_zero]; rfl, rfl⟩
              case round =>
                obtain ⟨p, hp, rfl, rfl, hw6⟩ := hrel
                rw [hw6]
                by_cases hpc : p < cx
                · have hdp := brow_cell HDW.out (k := p) (by omega)
                  have HLP : Hid _ := live_succ (deadL c.l) p (by omega)
                  have hp0 : (0 : Int) ≤ (p : Int) := by omega
                  have hp1 : (p : Int) < (c.l.length : Int) := by omega
                  have hp2 : (p : Int) < (cx : Int) := by omega
                  have hlp := live_le_n (deadL c.l) p
                  generalize live (deadL c.l) p = lp at HLP hlp ⊢
                  generalize (deadL c.l)[p] = dp at hdp HLP
                  cases dp
                  · go_wp2_with fail
                    go_roundw
                    case rel => exact ⟨p + 1, by omega, by go_num, by rw [HLP.out]; go_num, trivial⟩
                    case measure => simp [intOf]; omega
                  · go_wp2_with fail
                    go_roundw
                    case rel => exact ⟨p + 1, by omega, by go_num, by rw [HLP.out]; simp, trivial⟩
                    case measure => simp [intOf]; omega
                · obtain rfl : p = cx := by omega
                  have hp2 : ¬ (p : Int) < (p : Int) := by omega
                  have hb7 := bl_set HB1.out wO.heap.size 5 (.int .i64 ((live (deadL c.l) p : Nat) : Int)) (Nat.le_refl _)
                  have hX7 : (w5.setCell ⟨wO.heap.size, 5, none⟩ (.int .i64 ((live (deadL c.l) p : Nat) : Int))).heap[wO.heap.size]? = some (irB (jmpX (live (deadL c.l)) u) ga gc) := by
                    rw [setCell_at HBX.out]
                    unfold jmpX
                    rw [if_pos HJ.out, HCX.out]
                    rfl
                  have hZ := jmpX_same (live (deadL c.l)) u
                  have hR7 : kInt.row (w5.setCell ⟨wO.heap.size, 5, none⟩ (.int .i64 ((live (deadL c.l) p : Nat) : Int))) (fun j => j < w.heap.size) ga (jmpX (live (deadL c.l)) u).args := by
                    rw [hZ.2.2.2.2.2.2.2]
                    exact kInt.row_mono (by decide) HR.out fun j hj2 hlt2 => ⟨hj2, hb7.block j hlt2⟩
                  have HRz : Hid _ := hR7
                  have HA7 : Hid _ := HA.out.on hb7
                  have HB7 : Hid _ := hX7
                  have HNz : Hid ((jmpX (live (deadL c.l)) u).n < 4294967296) := by show _ < _; rw [hZ.2.2.2.2.2.1]; exact hn
                  have HCz : Hid ((jmpX (live (deadL c.l)) u).args.length ≤ gc) := by show _ ≤ _; rw [hZ.2.2.2.2.2.2.2]; exact hgc
                  have HZz : Hid _ := HZ0.out
                  clear hb7 hX7 hZ hR7
                  go_upto_region 20 with fail
                  generalize World.setCell w5 _ _ = w7 at HRz HA7 HB7 ⊢
                  generalize jmpX (live (deadL c.l)) u = z at HRz HB7 HNz HCz HZz
                  clear q0 q1 q2 q3 q4 q5 q6 q7 q8 hfz HZ0 HA HA5 HB1 HBX HDW HR
                  obtain ⟨o0, o1, o2, o3, o4⟩ := five HA7.out.out
                  have hfz := brow_free HA7.out.out 4
                  obtain ⟨q0, q1, q2, q3, q4, q5, q6, q7, q8⟩ := irB_at HB7.out
                  obtain ⟨cs, hown, hlay⟩ := HA7.out.own
                  have HL : Hid _ := hlay
                  have hsrc := src_ir w7 z ga gc
                  have hownA := own_kept hown (Kept.alloc w7 (irB z ga gc) (fun _ => False)) (fun _ _ e => e)
                  have hbs : Bo + 1 ≤ (w7.alloc (irB z ga gc)).heap.size := by have := lt_of_some HA7.out.out; simp; omega
                  have hml := live_le_n (deadL c.l) k
                  clear hlay hown
                  obtain ⟨m, hm⟩ : ∃ m, live (deadL c.l) k = m := ⟨_, rfl⟩
                  rw [hm] at o4 hownA hml HL HL1 HZz
                  have HM : Hid _ := hm
                  clear hm
                  go_upto_region 9 with (first | (at_builtin; refine wpList_append_big ir_info rfl Try.underlying37 (by decide) _ rfl _ _ rfl (Bo + 1) (.slice x m vc) m cs rfl hownA _ 1 (irCells z ga gc) rfl hsrc (by omega) hbs ?_; intro y c1 w1 hown1 hgrow hat; have hgr := HA7.out.grown HM.out hgrow; have e5 := brow_free hgr 4; have e7 := (five hgr).2.2.2.2))
                  have HP : Hid _ := HA7.out.push HM.out HL1.out HZz.out HNz.out HCz.out HRz.out HL.out hown1 hgrow hat
                  clear hown1 hgrow hat hgr e5 e7 hownA hsrc hbs HL
                  go_wp2_with fail
                  go_roundw
                  case rel => exact ⟨k + 1, y, c1, by omega, by go_num, HP.out⟩
                  case measure => simp [intOf]; omega
          · have HZz : Hid ((freeL c.l)[live (deadL c.l) k]? = some u) := by show _ = _; rw [HZ0.out, jmpX_not _ hj]
            have HRz : Hid (kInt.row w5 (fun j => j < w.heap.size) ga u.args) := kInt.row_mono (by decide) HR.out fun j hj2 hlt2 => ⟨hj2, HB1.out.block j hlt2⟩
            have HA7 : Hid _ := HA5.out
            have HB7 : Hid _ := HBX.out
            have HNz : Hid _ := HN.out
            have HCz : Hid _ := HC.out
            have g8 : (u.kind == 8) = false := by simpa using fun e => hj (.inl e)
            have g9 : (u.kind == 9) = false := by simpa using fun e => hj (.inr e)
            clear hj hjk HZ0 HA5 HBX HN HC HR HA HB1
            go_upto_region 20 with fail
            obtain ⟨w7, hw7⟩ : ∃ w7, w7 = w5 := ⟨_, rfl⟩
            obtain ⟨z, hz⟩ : ∃ z, z = u := ⟨_, rfl⟩
            rw [← hw7] at HRz HA7 HB7 ⊢
            rw [← hz] at HRz HB7 HNz HCz HZz
            clear hw7 hz q0 q1 q2 q3 q4 q5 q6 q7 q8 hfz g8 g9
            obtain ⟨o0, o1, o2, o3, o4⟩ := five HA7.out.out
            have hfz := brow_free HA7.out.out 4
            obtain ⟨q0, q1, q2, q3, q4, q5, q6, q7, q8⟩ := irB_at HB7.out
            obtain ⟨cs, hown, hlay⟩ := HA7.out.own
            have HL : Hid _ := hlay
            have hsrc := src_ir w7 z ga gc
            have hownA := own_kept hown (Kept.alloc w7 (irB z ga gc) (fun _ => False)) (fun _ _ e => e)
            have hbs : Bo + 1 ≤ (w7.alloc (irB z ga gc)).heap.size := by have := lt_of_some HA7.out.out; simp; omega
            have hml := live_le_n (deadL c.l) k
            clear hlay hown
            obtain ⟨m, hm⟩ : ∃ m, live (deadL c.l) k = m := ⟨_, rfl⟩
            rw [hm] at o4 hownA hml HL HL1 HZz
            have HM : Hid _ := hm
            clear hm
            go_upto_region 9 with (first | (at_builtin; refine wpList_append_big ir_info rfl Try.underlying37 (by decide) _ rfl _ _ rfl (Bo + 1) (.slice x m vc) m cs rfl hownA _ 1 (irCells z ga gc) rfl hsrc (by omega) hbs ?_; intro y c1 w1 hown1 hgrow hat; have hgr := HA7.out.grown HM.out hgrow; have e5 := brow_free hgr 4; have e7 := (five hgr).2.2.2.2))
            have HP : Hid _ := HA7.out.push HM.out HL1.out HZz.out HNz.out HCz.out HRz.out HL.out hown1 hgrow hat
            clear hown1 hgrow hat hgr e5 e7 hownA hsrc hbs HL
            go_wp2_with fail
            go_roundw
            case rel => exact ⟨k + 1, y, c1, by omega, by go_num, HP.out⟩
            case measure => simp [intOf]; omega
        · have HN : Hid _ := HA.out.skip HLV.out
          go_wp2_with fail
          go_roundw
          case rel => exact ⟨k + 1, x, vc, by omega, by go_num, HN.out⟩
          case measure => simp [intOf]; omega
      · have hkl : k = c.l.length := by omega
        subst hkl
        have em : live (deadL c.l) c.l.length = (freeL c.l).length := (keepL_len _ c.l).symm
        obtain ⟨cs, hown, hlay⟩ := hA.own
        have hout := hA.out
        rw [em] at hout hown hlay
        have hown2 : kIr.own 50 wO (fun j => j < w.heap.size) (Bo + 1) (.slice x (freeL c.l).length vc) (freeL c.l) := ⟨cs, hown, by rwa [List.take_of_length_le (Nat.le_refl _)] at hlay⟩
        obtain ⟨ax, cx, ex, hrowx, hcx⟩ := kIr.own_rd (T := fun j => j ≠ w.heap.size + 1) hown2 (fun j hj => Nat.ne_of_lt (Nat.lt_succ_of_lt hj)) (fun g hg => by have := (World.ownsRow.lt hown g hg).1; have := hA.lo; have := hA.hi; omega)
        injection ex with ex1 ex2 ex3
        subst ex1
        subst ex3
        have HRX : Hid _ := hrowx
        have H26 : Hid _ := hA.res
        have HBL : Hid _ := hA.below
        obtain ⟨i0, i1, i2, i3, i4⟩ := five hout
        obtain ⟨j0, j1, j2, j3, j4⟩ := five hA.res
        have hfj := brow_free hA.res
        clear hA HA hown hlay hown2 hrowx hout ex2
        go_wp2_with fail
        refine bodyPost_ret_by (results_row2 Try.results18 rfl rfl (load_co (set5 H26.out) rfl)) rfl ?_
        unfold RDropPost
        rw [HF.out]
        have hBF := fun y0 y1 y2 y3 y4 => bl_set5 HBL.out (Nat.le_succ w.heap.size) y0 y1 y2 y3 y4
        have hS5 : ∀ b, b ≠ w.heap.size + 1 → ∀ y0 y1 y2 y3 y4, (((((wO.setCell ⟨w.heap.size + 1, 0, none⟩ y0).setCell ⟨w.heap.size + 1, 1, none⟩ y1).setCell ⟨w.heap.size + 1, 2, none⟩ y2).setCell ⟨w.heap.size + 1, 3, none⟩ y3).setCell ⟨w.heap.size + 1, 4, none⟩ y4).heap[b]? = wO.heap[b]? := fun b hb _ _ _ _ _ =>
          (setCell_other hb).trans ((setCell_other hb).trans ((setCell_other hb).trans ((setCell_other hb).trans (setCell_other hb))))
        obtain ⟨n1, _, n3, _⟩ := coIn_on hin (hBF _ _ _ _ _)
        exact ⟨pa, pc, x, vc, rfl, ⟨n1, hcx, n3, kIr.row_mono (by decide) HRX.out fun b hb _ => ⟨trivial, hS5 b hb _ _ _ _ _⟩⟩, hBF _ _ _ _ _⟩
  · have hr' : ((rightR c).1 == 0) = false := by simpa using hr
    have hr2 : ((rightR c).1 != 0) = true := by simpa using hr
    have HF : Hid (dropT c = (noCo, (rightR c).1)) := dropT_no hr
    generalize (rightR c).1 = er at hri hr' hr2 HF
    generalize (rightR c).2 = at0 at hri
    clear hr
    go_enter Try.func18, Try.ntmps18
    go_upto_region 2 with (first | (go_at_call 29; refine hri.mono ?_; rintro e w2 ⟨rfl, hb2⟩))
    have h22 := (hb2.block _ (lt_of_some H2.out)).trans H2.out
    have HB2 : Hid _ := bl_then HB0.out hb2
    have H22 : Hid _ := h22
    obtain ⟨c0, c1, c2, c3, c4⟩ := five h22
    have hf := brow_free h22
    clear hri hb2 h22 H1 H2 HB0
    go_wp2_with fail
    refine bodyPost_ret_by (results_row2 Try.results18 rfl rfl (load_co (set5 H22.out) rfl)) rfl ?_
    unfold RDropPost
    rw [HF.out]
    exact ⟨none, 0, none, 0, rfl, ⟨Nat.le_refl _, Nat.le_refl _, trivial, trivial⟩, bl_set5 HB2.out (Nat.le_succ _) _ _ _ _ _⟩
end Go.Proofs.Ytndmkfmpdnoliaa
