/- CONTRACT of guess. -/
import Derived.Test.YtlagadofiahijaaDoorFGMath
import Derived.Deep.LoopGhost
import Derived.WalkMore
namespace Go.Proofs.YtlagadofiahijaaDoor
open Go.ChangeShapes Go.WideShapes Go.ChangeAt Go.RowKit Go.Shelf

theorem cut_w {B : Nat} (b : UInt8) (l : List UInt8) (w : World) (hl : l.length ≤ 1000000000) (hg : Glob B w) :
    Calls Tryd.prog 20 #[.string (bs l), .string ⟨#[b]⟩] w fun e w' => ∃ z, e = .returned (.tuple #[.string (bs (cutB b l).1), .string (bs (cutB b l).2), .bool z]) ∧ Below w.heap.size w w' ∧ w'.heap.size = w.heap.size :=
  (cut_any b l w hl hg).mono fun e w' ⟨z, h1, n, h2⟩ => ⟨z, h1, by rw [h2]; exact drewN_below _ _, by rw [h2]; rfl⟩
theorem src_blk (w : World) (tx e : TypeId) (hk : Tryd.prog.underlying tx = some (.slice e)) (g size : Nat) (cs : List Value) (hg : g = w.heap.size) (hl : cs.length = size) (h1 : ∀ u ∈ cs, u.oneCell' = true) : Src Tryd.prog size tx (.slice (some ⟨g, 0, none⟩) 1 1) 1 cs (w.alloc (.cells cs.toArray e)) := by
  subst hg
  exact Src.ofSlice _ hk ⟨w.heap.size, 0, none⟩ 1 1 cs (by omega) (World.news_of_block (cs := cs.toArray) (t := e) (fr := (0, 0)) (heap_alloc_new w _)) h1
theorem bs_ne {l : List UInt8} (h : l ≠ []) : (bs l).toList.isEmpty = false := by
  rw [bs_tl]; cases l with
  | nil => exact absurd rfl h
  | cons => rfl

set_option maxRecDepth 100000 in
set_option maxHeartbeats 2000000 in
theorem guess_any {B : Nat} (w : World) (s : List UInt8) (hg : Glob B w) (hs : s.length ≤ 1000000) :
    Calls Tryd.prog 19 #[.string (bs s)] w fun e w' => ∃ v, e = .returned v ∧ kSg.rd w' (fun b => w.heap.size ≤ b) v (gAll s []) ∧ Below w.heap.size w w' := by
  go_enter Tryd.func19, Tryd.ntmps19
  go_wp2
  go_step3
  go_wp2
  go_step3
  go_wp2
  go_loopg [0, 3] s.length (fun g s0 s3 wr => ∃ (s' : List UInt8) (acc : List Sg), s0 = .string (bs s') ∧ s'.length ≤ g ∧ acc.length + s'.length ≤ s.length ∧ kSg.own 33 wr (Own w.heap.size s3) w.heap.size s3 acc ∧ Below w.heap.size w wr ∧ gAll s [] = gAll s' acc)
  case atStart => exact ⟨s, [], rfl, Nat.le_refl _, by simp, kSg.own_none _ _ _ _, Below.refl _ _, rfl⟩
  case round =>
    obtain ⟨s', acc, rfl, hsg, hsl, hown, hbl, hq⟩ := hrel
    obtain ⟨wo, ewo⟩ : ∃ x, x = wr := ⟨wr, rfl⟩
    subst ewo
    obtain ⟨gu, egu⟩ : ∃ x, x = gk := ⟨gk, rfl⟩
    subst egu
    obtain ⟨vx, vc, rfl⟩ := kSg.own_form hown
    have HO : Hid (kSg.own 33 wo (Own w.heap.size (.slice vx acc.length vc)) w.heap.size (.slice vx acc.length vc) acc) := hown
    have HB : Hid (Below w.heap.size w wo) := hbl
    have HQ : Hid (gAll s [] = gAll s' acc) := hq
    have hwr := hbl.size
    clear hown hbl hq
    by_cases he : s' = []
    · have he0 : (bs s').toList.isEmpty = true := by rw [bs_tl, he]; rfl
      have HF : Hid (gAll s [] = acc) := by show _ = _; rw [HQ.out, he, gAll_nil]
      clear HQ he
      have HR : Hid (kSg.rd wo (fun b => w.heap.size ≤ b) (.slice vx acc.length vc) acc) := kSg.own_rd HO.out (fun b hb => hb.1) (fun g hg => (kSg.own_lt HO.out g hg).1)
      go_wp2_with fail
      try rw [Exit.noGoto_ret]
      go_ret
      exact ⟨_, rfl, by rw [HF.out]; exact HR.out, HB.out⟩
    · have he0 := bs_ne he
      have hlen := (cutB_len (b := 10) s').2.2 he
      have hlen1 := cutB_sum (b := 10) s'
      have hlen2 := cutB_sum (b := 32) (cutB 10 s').1
      have hgr := hg.below HB.out
      have hc1 := cut_w 10 s' wo (by omega) hgr
      have HE : Hid (s' ≠ []) := he
      clear he
      go_wp2_with (go_at_call 20; refine hc1.mono ?_; rintro e w1 ⟨z1, rfl, hb1, hz1⟩; refine Hid.out ?_)
      refine Lib.hid ?_
      have hc2 := cut_w 32 (cutB 10 s').1 w1 (by omega) (hgr.below hb1)
      go_wp2_with (go_at_call 20; refine hc2.mono ?_; rintro e w2 ⟨z2, rfl, hb2, hz2⟩)
      have HGS : Hid (gIn (cutB 32 (cutB 10 s').1).2 [] = none → gAll s [] = acc) := fun h => by rw [HQ.out, gAll_stop HE.out h]
      have HGO : Hid (∀ ps b, gIn (cutB 32 (cutB 10 s').1).2 [] = some (ps, b) → gAll s [] = gAll (cutB 10 s').2 (acc ++ [⟨(cutB 32 (cutB 10 s').1).1, ps, b⟩])) := fun ps b h => by rw [HQ.out, gAll_on HE.out h]
      have HW2 : Hid (Below wo.heap.size wo w2) := bl_then hb1 hb2
      have hz : w2.heap.size = wo.heap.size := hz2.trans hz1
      clear hc1 hc2 hb1 hb2 hz1 hz2 HQ he0 hgr
      generalize (cutB 32 (cutB 10 s').1).1 = nm at HGO hlen2
      generalize (cutB 32 (cutB 10 s').1).2 = ln at HGS HGO hlen2
      generalize (cutB 10 s').2 = rest at HGO hlen hlen1
      generalize (cutB 10 s').1 = l1 at hlen1 hlen2
      go_loopg [3, 4] ln.length (fun g2 s3 s4 wy => ∃ (line : List UInt8) (pacc : List Ty) (pv : Value), s3 = .slice vx acc.length vc ∧ s4 = .string (bs line) ∧ line.length ≤ g2 ∧ pacc.length + line.length ≤ ln.length ∧ wy.heap[wo.heap.size]? = some (.cells #[.string (bs nm), pv, .bool false] 33) ∧
        kTy.own 38 wy (fun _ => True) (wo.heap.size + 1) pv pacc ∧ Below wo.heap.size wo wy ∧ gIn ln [] = gIn line pacc)
      case atStart =>
        refine ⟨ln, [], .slice none 0 0, rfl, rfl, Nat.le_refl _, by simp, ?_, kTy.own_none _ _ _ _, bl_alloc HW2.out _, rfl⟩
        rw [← hz]; exact heap_alloc_new w2 _
      case round =>
        obtain ⟨line, pacc, pv, rfl, rfl, hlg, hll, hsb, hpo, hbw, hgi⟩ := hrel
        obtain ⟨px, pc, rfl⟩ := kTy.own_form hpo
        have HP : Hid (kTy.own 38 wr (fun _ => True) (wo.heap.size + 1) (.slice px pacc.length pc) pacc) := hpo
        have HBW : Hid (Below wo.heap.size wo wr) := hbw
        have HGI : Hid (gIn ln [] = gIn line pacc) := hgi
        have hzs : wo.heap.size < wr.heap.size := lt_of_some hsb
        clear hpo hbw hgi
        by_cases he : line = []
        · have he0 : (bs line).toList.isEmpty = true := by rw [bs_tl, he]; rfl
          have HF : Hid (gAll s [] = acc) := HGS.out (by rw [HGI.out, he, gIn_nil])
          clear he
          have HR : Hid (kSg.rd wr (fun b => w.heap.size ≤ b) (.slice vx acc.length vc) acc) := kSg.rd_mono (by decide) (kSg.own_rd HO.out (T := fun b => w.heap.size ≤ b) (fun b hb => hb.1) (fun g hg => (kSg.own_lt HO.out g hg).1)) fun b hb hlt => ⟨hb, HBW.out.block b hlt⟩
          go_wp2_with fail
          try rw [Exit.noGoto_ret]
          go_ret
          exact ⟨_, rfl, by rw [HF.out]; exact HR.out, bl_then HB.out HBW.out⟩
        · have he0 := bs_ne he
          have hlt1 := (cutB_len (b := 32) line).2.2 he
          have hlt2 := cutB_sum (b := 32) line
          have HG1 : Hid ((cutB 32 line).1 = [58] → gIn ln [] = some (pacc, decide ((cutB 32 line).2 = [115, 101, 99]))) := fun h => by rw [HGI.out, gIn_end he h]
          have HG2 : Hid (¬ (cutB 32 line).1 = [58] → gIn ln [] = gIn (cutB 32 line).2 (pacc ++ [gTy (cutB 32 line).1])) := fun h => by rw [HGI.out, gIn_on he h]
          have hgw := hg.below (bl_then HB.out HBW.out)
          have hc1 := cut_w 32 line wr (by omega) hgw
          clear he HGI
          generalize (cutB 32 line).1 = wd at HG1 HG2 hc1 hlt2
          generalize (cutB 32 line).2 = l2 at HG1 HG2 hc1 hlt1 hlt2
          by_cases hcol : wd = [58]
          · have hcol' : ((bs wd).toList == [58]) = true := by rw [bs_tl, hcol]; rfl
            have HI := HG1.out hcol
            clear hcol
            go_wp2_with (go_at_call 20; refine hc1.mono ?_; rintro e w3 ⟨z3, rfl, hb3, hz3⟩; refine Hid.out ?_)
            refine Lib.hid ?_
            have hs3 : w3.heap[wo.heap.size]? = some (.cells #[.string (bs nm), .slice px pacc.length pc, .bool false] 33) := by rw [hb3.block _ (by omega)]; exact hsb
            obtain ⟨xs, hox, hlx⟩ := HO.out
            have hvl : ∀ g, (Value.slice vx acc.length vc).ownBlock = some g → w.heap.size ≤ g ∧ g < wo.heap.size := kSg.own_lt HO.out
            obtain ⟨d0, d1, d2, g0, g1, g2⟩ := cells3 hs3
            have HLX : Hid (kSg.lay wo (Own w.heap.size (.slice vx acc.length vc)) xs acc) := hlx
            have hb3w : Below wo.heap.size wo w3 := bl_then HBW.out hb3
            have hox3 : ∀ u o, ((w3.setCell ⟨wo.heap.size, 2, none⟩ u).alloc o).ownsRow w.heap.size 33 3 (.slice vx acc.length vc) acc.length xs := fun u o =>
              own_kept (own_kept (own_kept hox (Below.kept hb3w (fun _ => False)) (fun _ _ h => h)) (Kept.set w3 wo.heap.size 2 u) (fun g hg e => by have := (hvl g hg).2; omega)) (Kept.alloc _ o (fun _ => False)) (fun _ _ h => h)
            have HVL : Hid _ := hvl
            clear hlx hox hvl hc1 hsb
            go_wp2_with (first | (at_builtin; refine wpList_append_src sg_info rfl Tryd.underlying28 (by decide) _ rfl _ _ rfl w.heap.size (.slice vx acc.length vc) acc.length xs rfl (hox3 _ _) (.slice (some ⟨wr.heap.size, 0, none⟩) 1 1) 1 [.string (bs nm), .slice px pacc.length pc, .bool ((bs l2).toList == [115, 101, 99])] rfl (src_blk _ _ _ Tryd.underlying28 _ 3 _ (by simp [World.setCell]; omega) rfl (by simp [Value.oneCell'])) (by omega) (by simp [World.setCell]; omega) ?_; intro y5 c5 w5 hown5 hgrow5 hat5; refine Hid.out ?_) | go_in)
            refine Lib.hid ?_
            generalize hsc : ((bs l2).toList == [115, 101, 99]) = sc at *
            have hsd : decide (l2 = [115, 101, 99]) = sc := by
              rw [← hsc, bs_tl, Bool.eq_iff_iff]; simp
            have HGN : Hid (gAll s [] = gAll rest (acc ++ [⟨nm, pacc, sc⟩])) := HGO.out _ _ (by rw [HI, hsd])
            have hrd := kTy.own_rd (T := fun b => wo.heap.size + 1 ≤ b ∧ b < wr.heap.size) (S := fun b => wo.heap.size + 1 ≤ b ∧ b < wr.heap.size) (by
              obtain ⟨ps, h1, h2⟩ := HP.out
              exact ⟨ps, h1, ty_lay h2⟩) (fun _ h => h) (fun g hg => kTy.own_lt HP.out g hg)
            obtain ⟨qa, qc, hqe, hqr, hqc⟩ := hrd
            have hqe' : qa = px ∧ qc = pc := by cases hqe; exact ⟨rfl, rfl⟩
            obtain ⟨rfl, rfl⟩ := hqe'
            have hCC : kSg.C (w3.setCell ⟨wo.heap.size, 2, none⟩ (.bool sc)) (Own w.heap.size (.slice vx acc.length vc)) [.string (bs nm), .slice qa pacc.length qc, .bool sc] ⟨nm, pacc, sc⟩ := by
              refine ⟨qa, qc, rfl, hqc, kTy.row_mono (by decide) hqr fun b hb hlt => ⟨⟨by omega, fun e => ?_⟩, ?_⟩⟩
              · have := (HVL.out b e).2; omega
              · rw [setCell_other (by omega), hb3.block b hlt]
            have hLL : kSg.lay (w3.setCell ⟨wo.heap.size, 2, none⟩ (.bool sc)) (Own w.heap.size (.slice vx acc.length vc)) xs acc :=
              kSg.lay_mono HLX.out fun b hb hlt => ⟨hb, by rw [setCell_other (by omega), hb3w.block b hlt]⟩
            have HN : Hid (kSg.own 33 w5 (Own w.heap.size (.slice y5 (acc.length + 1) c5)) w.heap.size (.slice y5 (acc.length + 1) c5) (acc ++ [⟨nm, pacc, sc⟩])) :=
              kSg.own_append hLL hCC (fun i hi => heap_alloc_old _ _ hi) (by simp) hown5 rfl hgrow5 (fun b e => by
                rcases hat5 with h | h
                · exact .inl (h.symm.trans e)
                · exact .inr (by have := Option.some.inj (h.symm.trans e); omega))
            have HB5 : Hid (Below w.heap.size w w5) := by
              refine Kept.to_below (M := fun i => w.heap.size ≤ i) ((((Below.kept (bl_then HB.out hb3w) _).trans ((Kept.set w3 wo.heap.size 2 (.bool sc)).mono fun i _ hi => ?_)).alloc_r (.cells #[.string (bs nm), .slice qa pacc.length qc, .bool sc] 33)).trans ((Kept.of_grown hgrow5).mono fun i _ hi => ?_)) (fun _ h => h)
              · omega
              · exact (HVL.out i hi).1
            clear hown5 hgrow5 hat5 hLL hCC hqr hox3 hb3 hb3w d0 d1 d2 g0 g1 g2 hs3 hsc hsd HI
            go_wp2
            go_roundg rest.length
            case measure => omega
            case rel => exact ⟨rest, acc ++ [⟨nm, pacc, sc⟩], rfl, Nat.le_refl _, by simp; omega, HN.out, HB5.out, HGN.out⟩
          · have hcol' : ((bs wd).toList == [58]) = false := by rw [bs_tl]; simpa using hcol
            have HI : Hid (gIn ln [] = gIn l2 (pacc ++ [gTy wd])) := HG2.out hcol
            clear hcol
            go_wp2_with (go_at_call 20; refine hc1.mono ?_; rintro e w3 ⟨z3, rfl, hb3, hz3⟩; refine Hid.out ?_)
            refine Lib.hid ?_
            have hs3 : w3.heap[wo.heap.size]? = some (.cells #[.string (bs nm), .slice px pacc.length pc, .bool false] 33) := by rw [hb3.block _ (by omega)]; exact hsb
            obtain ⟨ps, hop, hlp⟩ := HP.out
            have hpl : ∀ g, (Value.slice px pacc.length pc).ownBlock = some g → wo.heap.size + 1 ≤ g ∧ g < wr.heap.size := kTy.own_lt HP.out
            obtain ⟨d0, d1, d2, g0, g1, g2⟩ := cells3 hs3
            have hg3 : Glob B w3.drew := (hgw.below hb3).below ⟨rfl, rfl, rfl, Nat.le_refl _, fun _ _ => rfl⟩
            have hct := guessType_any wd w3.drew (by omega) hg3
            clear hc1 hsb
            go_wp2_with fail
            have HHS : ∀ u : World, Below w3.drew.heap.size w3.drew u → u.heap[wo.heap.size]? = some (.cells #[.string (bs nm), .slice px pacc.length pc, .bool false] 33) := fun u hu => by
              rw [hu.block _ (by show _ < w3.heap.size; omega)]; exact hs3
            have HHO : ∀ (u : World) (o : Obj), Below w3.drew.heap.size w3.drew u → (u.alloc o).ownsRow (wo.heap.size + 1) 38 2 (.slice px pacc.length pc) pacc.length ps := fun u o hu =>
              own_kept (own_kept (own_kept hop (Below.kept hb3 (fun _ => False)) (fun _ _ h => h)) (Below.to_kept (Kept.refl (fun _ => False) w3).drew hu) (fun _ _ h => h)) (Kept.alloc _ o (fun _ => False)) (fun _ _ h => h)
            have hpn : ¬ (Value.slice px pacc.length pc).ownBlock = some wo.heap.size := fun e => by have := (hpl _ e).1; omega
            go_region_law ((first | (refine step_call rfl 24 _ _ rfl #[.string (bs wd)] (by simp [go_sem, Act.eval]) ?_; refine hct.mono ?_; rintro e w4 ⟨rfl, hb4⟩; have hs4 := HHS w4 hb4; have ho4 := fun o => HHO w4 o hb4; have hz4 : w3.heap.size ≤ w4.heap.size := hb4.size; have hl4 : wo.heap.size < w4.heap.size := (by omega); obtain ⟨x0, x1, x2, t0, t1, t2⟩ := cells3 hs4) | (refine step_append_src ty_info rfl Tryd.underlying31 (by decide) (by rfl) _ _ (by rfl) (wo.heap.size + 1) (.slice px pacc.length pc) pacc.length ps (by rfl) (ho4 _) (.slice (some ⟨w4.heap.size, 0, none⟩) 1 1) 1 [.bool (gTy wd).sec, .int .i64 (gTy wd).len] (by rfl) (src_blk _ _ _ Tryd.underlying31 _ 2 _ (by simp) rfl (by simp [Value.oneCell'])) (by omega) (by simp; omega) ?_; intro y5 c5 w5 hown5 hgrow5 hat5; have hs5 : w5.heap[wo.heap.size]? = some (.cells #[.string (bs nm), .slice px pacc.length pc, .bool false] 33) := (by rw [hgrow5.block _ (by simp; omega) (fun e => hpn e.symm), heap_alloc_old _ _ (by omega)]; exact hs4); obtain ⟨r0, r1, r2, q0, q1, q2⟩ := cells3 hs5)))
            all_goals go_wp2_with fail
            all_goals
              go_roundg l2.length
              case measure => omega
              case rel =>
                have h3d : Below w3.heap.size w3 w3.drew := ⟨rfl, rfl, rfl, Nat.le_refl _, fun _ _ => rfl⟩
                refine ⟨l2, pacc ++ [gTy wd], .slice y5 (pacc.length + 1) c5, rfl, rfl, Nat.le_refl _, by simp; omega, set_over hs5, ⟨ps ++ [.bool (gTy wd).sec, .int .i64 (gTy wd).len], ?_, ty_lay (kTy.lay_snoc (w := wr) (S := fun _ => True) rfl (ty_lay hlp))⟩, ?_, by rw [HI.out]⟩
                · rw [show (pacc ++ [gTy wd]).length = pacc.length + 1 by simp]
                  exact own_kept hown5 (Kept.set w5 wo.heap.size 1 _) (fun g hg e => by have := (hown5.lt g hg).1; omega)
                · refine Kept.to_below (M := fun i => wo.heap.size ≤ i) ((((Below.kept (bl_then (bl_then (bl_then HBW.out hb3) h3d) hb4) _).alloc_r _).trans ((Kept.of_grown hgrow5).mono fun i _ hi => ?_)).trans ((Kept.set w5 wo.heap.size 1 _).mono fun i _ hi => ?_)) (fun _ h => h)
                  · have := (hpl i hi).1; omega
                  · omega
end Go.Proofs.YtlagadofiahijaaDoor
