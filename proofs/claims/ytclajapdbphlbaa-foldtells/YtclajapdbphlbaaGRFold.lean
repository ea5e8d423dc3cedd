/- CONTRACT of the reference's Fold. -/
import Derived.Test.YtclajapdbphlbaaGRFoldM
import Derived.Test.YtclajapdbphlbaaIRRight
import Derived.Test.YtclajapdbphlbaaIApp2
namespace Go.Proofs.Ytclajapdbphlbaa
open Go.ChangeShapes Go.WideShapes Go.ChangeAt Go.RowKit

theorem fa_info : (Try.prog.info? 58).map (fun i => (i.zero, i.size, i.bytes)) = some (some (.agg #[.bool false, .int .u32 0]), 2, 8) := by kernel_rfl
theorem src_fa (w : World) (v : Option Nat) : Src Try.prog 2 56 (.slice (some ⟨w.heap.size, 0, none⟩) 1 1) 1 [.bool v.isSome, .int .u32 ((v.getD 0 : Nat) : Int)] (w.alloc (.cells #[.bool v.isSome, .int .u32 ((v.getD 0 : Nat) : Int)] 58)) :=
  Src.ofSlice _ Try.underlying56 ⟨w.heap.size, 0, none⟩ 1 1 [.bool v.isSome, .int .u32 ((v.getD 0 : Nat) : Int)] rfl (World.news_of_block (cs := #[.bool v.isSome, .int .u32 ((v.getD 0 : Nat) : Int)]) (t := 58) (fr := (0, 0)) (heap_alloc_new w _)) (by simp [Value.oneCell'])
/-- What the reference tells. -/
def RefPost (w : World) (x : Co) (e : Ending) (w' : World) : Prop :=
  ∃ qa qc ra rc, e = .returned (.tuple #[coV (foldT x).1 qa qc ra rc, .int .i64 (foldT x).2]) ∧ CoIn w' (fun _ => True) (foldT x).1 qa qc ra rc ∧ Below w.heap.size w w'
set_option maxRecDepth 100000 in
set_option maxHeartbeats 8000000 in
theorem refFold_any (x : Co) (pa : Option Addr) (pc : Nat) (la : Option Addr) (lc : Nat) (w : World) (hin : CoIn w (fun _ => True) x pa pc la lc) (hok : CoOk x) (hps : x.ps.length ≤ 1000000) (hlm : x.l.length ≤ 1000000000) :
    Calls Try.prog 13 #[coV x pa pc la lc] w fun e w' => RefPost w x e w' := by
  have hb0 : Below w.heap.size w ((w.alloc (coO x pa pc la lc)).alloc coZ) := bl_alloc (bl_alloc (Below.refl _ _) _) _
  have h1 : ((w.alloc (coO x pa pc la lc)).alloc coZ).heap[w.heap.size]? = some (coO x pa pc la lc) := by rw [heap_alloc_old _ _ (by simp)]; exact heap_alloc_new w _
  have h2 : ((w.alloc (coO x pa pc la lc)).alloc coZ).heap[w.heap.size + 1]? = some coZ := by
    have := heap_alloc_new (w.alloc (coO x pa pc la lc)) coZ
    simpa using this
  have hri := refRight_any x pa pc la lc ((w.alloc (coO x pa pc la lc)).alloc coZ) (coIn_on hin hb0) hok hps hlm
  have H1 : Hid _ := h1
  have H2 : Hid _ := h2
  have HB0 : Hid _ := hb0
  clear h1 h2 hb0
  unfold coV at hri ⊢
  by_cases hr : (rightR x).1 = 0
  · have HF : Hid (foldT x = (foldC x, 0)) := foldT_ok hr
    have hfo := foldOk_of hr hok
    have hne : 0 < x.l.length := by
      obtain ⟨_, _, h3, _⟩ := formB_parts (right_form hr); exact h3
    rw [hr] at hri
    generalize (rightR x).2 = at0 at hri
    obtain ⟨bL, oL, _, _, eL, _⟩ := ir_at hin.l 0 hne
    subst eL
    go_enter Try.func13, Try.ntmps13
    go_upto_region 4 with (first | (go_at_call 24; refine hri.mono ?_; rintro e w2 ⟨rfl, hb2⟩))
    have h22 := (hb2.block _ (lt_of_some H2.out)).trans H2.out
    have h12 := (hb2.block _ (lt_of_some H1.out)).trans H1.out
    obtain ⟨c0, c1, c2, c3, c4⟩ := five h12
    have hy3 := heap_alloc_new w2 (coO x pa pc (some ⟨bL, oL, none⟩) lc)
    have hbb := bl_alloc (Below.refl w2.heap.size w2) (coO x pa pc (some ⟨bL, oL, none⟩) lc)
    have hB3 := bl_then (bl_then HB0.out hb2) hbb
    have h13 := (hbb.block _ (lt_of_some h12)).trans h12
    have h23 := (hbb.block _ (lt_of_some h22)).trans h22
    have hz2 : w.heap.size + 1 < w2.heap.size := lt_of_some h22
    go_upto_region 5 with fail
    generalize World.alloc w2 _ = w3 at hy3 hB3 h13 h23 ⊢
    clear hri hb2 h22 h12 hbb H1 H2 HB0 c0 c1 c2 c3 c4
    have hz3 : w2.heap.size < w3.heap.size := lt_of_some hy3
    -- the instructions are copied
    have hb4 := bl_alloc (Below.refl w3.heap.size w3) (.cells #[] 36)
    have hrowS : kIr.row (w3.alloc (.cells #[] 36)) (fun j => j < w.heap.size) (some ⟨bL, oL, none⟩) x.l := kIr.row_mono (by decide) hin.l fun b _ hlt => ⟨hlt, (bl_then hB3 hb4).block b hlt⟩
    obtain ⟨cs, hlay, hsrc⟩ := kIr.src (c := lc) (tx := 23) Try.underlying23 hrowS
    have hof := own_fresh w3 w.heap.size 36 9 (by have := hB3.size; omega)
    obtain ⟨c0, c1, c2, c3, c4⟩ := five ((hb4.block _ (lt_of_some h13)).trans h13)
    have HL : Hid _ := hlay
    have H13 : Hid _ := h13
    have H23 : Hid _ := h23
    have HY3 : Hid _ := hy3
    have HB3 : Hid _ := hB3
    obtain ⟨k0, k1, k2, k3, k4⟩ := five h13
    have hbs : w.heap.size ≤ (w3.alloc (.cells #[] 36)).heap.size := Nat.le_trans hB3.size hb4.size
    clear hlay hrowS h13 h23 hy3 hB3 hb4
    go_upto_region 6 with (first | (at_builtin; refine wpList_append_big ir_info rfl Try.underlying23 (by decide) _ rfl _ _ rfl w.heap.size (.slice (some ⟨w3.heap.size, 0, none⟩) 0 0) 0 [] rfl hof _ x.l.length cs rfl hsrc (by omega) hbs ?_; intro y5 c5 w5 hown5 hgrow5 hat5; have hb5 : Below w3.heap.size w3 w5 := Kept.to_below ((Kept.alloc w3 _ (fun k => w3.heap.size ≤ k)).trans ((Kept.of_grown hgrow5).mono fun k _ hk => by { have h7 : w3.heap.size = k := by { simpa [Value.ownBlock] using hk }; omega })) (fun k hk => hk); have hy5 := (hb5.block _ (lt_of_some HY3.out)).trans HY3.out; obtain ⟨d0, d1, d2, d3, d4⟩ := five hy5; have hf5 := brow_free hy5))
    have hown5' : w5.ownsRow w.heap.size 36 9 (.slice y5 x.l.length c5) x.l.length cs := by simpa using hown5
    obtain ⟨g, hg⟩ : ∃ g, y5 = some ⟨g, 0, none⟩ := by
      rcases hown5'.2 with ⟨_, h0⟩ | ⟨g, _, _, e, _⟩
      · omega
      · injection e with e1; exact ⟨g, e1⟩
    subst hg
    have hg3 : w3.heap.size ≤ g := by
      rcases hat5 with e | e
      · have : g = w3.heap.size := Option.some.inj e; omega
      · have h7 : g = (w3.alloc (.cells #[] 36)).heap.size := Option.some.inj e
        have h8 := (bl_alloc (Below.refl w3.heap.size w3) (.cells #[] 36)).size
        omega
    have hg5 : g < w5.heap.size := (hown5'.lt g rfl).2
    have hgw : w.heap.size ≤ g := (hown5'.lt g rfl).1
    have hB6 := bl_set (bl_then HB3.out hb5) w2.heap.size 4 (.slice (some ⟨g, 0, none⟩) x.l.length c5) (by omega)
    have hk56 := Kept.set w5 w2.heap.size 4 (.slice (some ⟨g, 0, none⟩) x.l.length c5)
    have h16 := (hk56.block w.heap.size (by have := hb5.size; omega) (fun e => by omega)).trans ((hb5.block _ (lt_of_some H13.out)).trans H13.out)
    have h26 := (hk56.block (w.heap.size + 1) (by have := hb5.size; omega) (fun e => by omega)).trans ((hb5.block _ (lt_of_some H23.out)).trans H23.out)
    have hy6 := setCell_at (o := 4) (v := .slice (some ⟨g, 0, none⟩) x.l.length c5) hy5
    have hout6 : kIr.own 36 (w5.setCell ⟨w2.heap.size, 4, none⟩ (.slice (some ⟨g, 0, none⟩) x.l.length c5)) (fun j => j < w.heap.size) w.heap.size (.slice (some ⟨g, 0, none⟩) x.l.length c5) x.l :=
      ⟨cs, own_kept hown5' hk56 (fun j e m => by have h7 : g = j := Option.some.inj e; omega), kIr.lay_mono HL.out fun j hj hlt => ⟨hj, by
        rw [setCell_other (by omega), hb5.block j (by have := HB3.out.size; omega), heap_alloc_old w3 _ (by have := HB3.out.size; omega)]⟩⟩
    have hs6 : w5.heap.size ≤ (w5.setCell ⟨w2.heap.size, 4, none⟩ (.slice (some ⟨g, 0, none⟩) x.l.length c5)).heap.size := hk56.size
    generalize w5.setCell ⟨w2.heap.size, 4, none⟩ (.slice (some ⟨g, 0, none⟩) x.l.length c5) = w6 at hB6 h16 h26 hy6 hout6 hs6 ⊢
    have hy6' : w6.heap[w2.heap.size]? = some (.cells #[.string (bs x.name), .slice pa x.ps.length pc, .int .i64 x.regs, .int .i64 x.cells, .slice (some ⟨g, 0, none⟩) x.l.length c5] 25) := hy6
    have HR0 : Hid (RefAt w w6 x g c5 0 0 (.slice none 0 0) w6) := ⟨by simpa using hout6, kFa.own_none _ _ _ _, Kept.refl _ _⟩
    have H16 : Hid _ := h16
    have H26 : Hid _ := h26
    have HY6 : Hid _ := hy6'
    have HB6 : Hid _ := hB6
    have hg6 : g < w6.heap.size := by omega
    have hww6 : w.heap.size ≤ w6.heap.size := hB6.size
    have hlt1 := lt_of_some h16
    have hlt2 := lt_of_some h26
    have hlt3 := lt_of_some hy6'
    have hzz : w.heap.size + 1 < w3.heap.size := by omega
    clear hown5 hgrow5 hat5 hb5 hy5 d0 d1 d2 d3 d4 hf5 hown5' hB6 hk56 h16 h26 hy6 hout6 hs6 hy6' H13 H23 HY3 HB3 HL hof hsrc hbs c0 c1 c2 c3 c4 k0 k1 k2 k3 k4 hg5
    have HN : Hid _ := irs_lt hin.l
    have HBK : Hid (∀ w' : World, Kept (fun j => j = g) w6 w' → Below w.heap.size w w') := fun w' hk => Kept.to_below ((Below.kept HB6.out (fun i => w.heap.size ≤ i)).trans (hk.mono fun i _ e => by show w.heap.size ≤ i; omega)) fun _ hi => hi
    have HIN : Hid _ := hin
    clear hin
    go_wp2
    go_loopw [7, 8] (fun vf i wr => ∃ k : Nat, k ≤ x.l.length ∧ i = .int .i64 k ∧ RefAt w w6 x g c5 k k vf wr) (fun _ i _ => x.l.length - (intOf i).toNat)
    case atStart => exact ⟨0, Nat.zero_le _, rfl, HR0.out⟩
    case round =>
      obtain ⟨k, hk, rfl, hR⟩ := hrel
      obtain ⟨fa, fc, hv⟩ := kFa.own_form hR.f
      rw [facts_len] at hv
      subst hv
      have hb := HBK.out wr hR.kept
      obtain ⟨k0, k1, k2, k3, k4⟩ := five ((hR.kept.block w.heap.size hlt1 (fun e => by omega)).trans H16.out)
      have HR : Hid _ := hR
      have HB : Hid _ := hb
      by_cases hlt : k < x.l.length
      · obtain ⟨fa', fc', e', hfrow, _⟩ := Kind.own_rd (K := kFa) (T := fun _ => True) hR.f (fun _ _ => trivial) (fun _ _ => trivial)
        injection e' with e1 e2 e3
        subst e1
        have haf := refAfter_any x pa pc (some ⟨bL, oL, none⟩) lc fa fc k wr (coIn_on HIN.out hb).l hfrow hfo hlt HN.out
        have HFS : Hid _ := facts_succ hlt
        have HST : Hid (aft (knAt (begs x.l) x.l k) x.l[k] = none ∨ x.l[k].kind < 2 ∨ 4 < x.l[k].kind → foldX (knAt (begs x.l) x.l k) x.l[k] = x.l[k]) := aft_stay
        have HOV : Hid (∀ n, aft (knAt (begs x.l) x.l k) x.l[k] = some n → 2 ≤ x.l[k].kind → x.l[k].kind ≤ 4 → foldX (knAt (begs x.l) x.l k) x.l[k] = cIr x.l[k].d n) := fun n => aft_over
        have hvl := aft_lt (knAt_ok HN.out k (by omega)) (HN.out _ (List.getElem_mem hlt))
        generalize aft (knAt (begs x.l) x.l k) x.l[k] = v at haf HFS HST HOV hvl
        have hk0 : (0 : Int) ≤ (k : Int) := by omega
        have hk1 : (k : Int) < (x.l.length : Int) := by omega
        clear hR hb hfrow e2 e3
        go_upto_region 11 with (first | (go_at_call 25; refine haf.mono ?_; rintro e w7 ⟨rfl, hb7⟩))
        have ht8 := heap_alloc_new w7 (.cells #[.bool v.isSome, .int .u32 ((v.getD 0 : Nat) : Int)] 58)
        have hR8 := (HR.out.on hb7).on (bl_alloc (Below.refl w7.heap.size w7) (.cells #[.bool v.isSome, .int .u32 ((v.getD 0 : Nat) : Int)] 58))
        have hvo := fun j e => ((kFa.own_lt HR.out.f j e).2 : j < wr.heap.size)
        have hs7 := hb7.size
        generalize w7.alloc (.cells #[.bool v.isSome, .int .u32 ((v.getD 0 : Nat) : Int)] 58) = w8 at ht8 hR8 ⊢
        obtain ⟨t0, t1⟩ := two ht8
        obtain ⟨fs, hfs1, hfs2⟩ := hR8.f
        rw [facts_len] at hfs1
        have hownA : (w8.alloc (.cells #[.bool v.isSome, .int .u32 ((v.getD 0 : Nat) : Int)] 58)).ownsRow w6.heap.size 58 2 (.slice fa k fc) k fs := own_kept hfs1 (Kept.alloc w8 _ (fun _ => False)) (fun _ _ e => e)
        have hsrc := src_fa w8 v
        have hbs : w6.heap.size ≤ (w8.alloc (.cells #[.bool v.isSome, .int .u32 ((v.getD 0 : Nat) : Int)] 58)).heap.size := Nat.le_trans hR8.kept.size (bl_alloc (Below.refl w8.heap.size w8) _).size
        have HFF : Hid _ := And.intro hfs1 hfs2
        have HR8 : Hid _ := hR8
        have HT8 : Hid _ := ht8
        clear haf hb7 hfs1 hfs2 hR8 ht8 k0 k1 k2 k3 k4
        go_upto_region 12 with (first | (at_builtin; refine wpList_append_src fa_info rfl Try.underlying56 (by decide) _ rfl _ _ rfl w6.heap.size (.slice fa k fc) k fs rfl hownA _ 1 [.bool v.isSome, .int .u32 ((v.getD 0 : Nat) : Int)] rfl hsrc (by omega) hbs ?_; intro y9 c9 w9 hown9 hgrow9 hat9))
        have hR9 := HR8.out.push hww6 hg6 HFF.out hvl HFS.out _ hown9 hgrow9
        have hk89 : Kept (fun j => (Value.slice fa k fc).ownBlock = some j) w8 w9 := (Below.kept (bl_alloc (Below.refl w8.heap.size w8) (.cells #[.bool v.isSome, .int .u32 ((v.getD 0 : Nat) : Int)] 58)) _).trans (Kept.of_grown hgrow9)
        have ht9 := (hk89.block w7.heap.size (lt_of_some HT8.out) (fun e => by have := hvo _ e; omega)).trans HT8.out
        have hb9 := HBK.out w9 hR9.kept
        obtain ⟨k0, k1, k2, k3, k4⟩ := five ((hR9.kept.block w.heap.size hlt1 (fun e => by omega)).trans H16.out)
        obtain ⟨b2, o2, ga, gc, eL, _, hb2, hia, hgc, hn1, _⟩ := ir_at HIN.out.l k hlt
        have eL' : bL = b2 ∧ oL = o2 := by simpa using eL
        obtain ⟨rfl, rfl⟩ := eL'
        obtain ⟨e0, e1, e2, e3, e4, e5, e6, e7, e8⟩ := hia.keep (hb9.block bL hb2)
        have HSTAY : Hid (∀ w', Below w9.heap.size w9 w' → foldX (knAt (begs x.l) x.l k) x.l[k] = x.l[k] → RefAt w w6 x g c5 (k + 1) (k + 1) (.slice y9 (k + 1) c9) w') := fun w' hb h => (hR9.on hb).stay hlt h
        have HOVER : Hid (∀ w' n, Below w9.heap.size w9 w' → n < 4294967296 → foldX (knAt (begs x.l) x.l k) x.l[k] = cIr x.l[k].d n → w'.there g (k * 9) 9 ∧ RefAt w w6 x g c5 (k + 1) (k + 1) (.slice y9 (k + 1) c9) (w'.setCells g (k * 9) (irCells (cIr x.l[k].d n) none 0))) := fun w' n hb h1 h2 => (hR9.on hb).over hlt hgw hg6 h1 h2
        have HY9 : Hid _ := (hR9.kept.block w2.heap.size hlt3 (fun e => by omega)).trans HY6.out
        have HT9 : Hid _ := ht9
        generalize x.l[k] = yy at e0 e1 e2 e3 e4 e5 e6 e7 e8 HST HOV HSTAY HOVER hgc hn1
        clear hown9 hgrow9 hat9 hR9 hk89 ht9 hb9 eL hia HFF HR8 HT8 t0 t1 hownA hsrc hbs HFS hvo
        have hbx := bl_alloc (Below.refl w9.heap.size w9) (irB yy ga gc)
        have hy10 := heap_alloc_new w9 (irB yy ga gc)
        have HY10 : Hid _ := (hbx.block _ (lt_of_some HY9.out)).trans HY9.out
        have HT10 : Hid _ := (hbx.block _ (lt_of_some HT9.out)).trans HT9.out
        have HX10 : Hid _ := hy10
        have HBX : Hid _ := hbx
        go_upto_region 13 with fail
        generalize World.alloc w9 _ = w10 at HY10 HT10 HX10 HBX ⊢
        clear hbx hy10 HY9 HT9 e0 e1 e2 e3 e4 e5 e6 e7 e8 k0 k1 k2 k3 k4
        obtain ⟨e0, e1, e2, e3, e4, e5, e6, e7, e8⟩ := irB_at HX10.out
        obtain ⟨t0, t1⟩ := two HT10.out
        obtain ⟨j0, j1, j2, j3, j4⟩ := five HY10.out
        cases v with
        | none =>
          have HF2 : Hid _ := HSTAY.out w10 HBX.out (HST.out (.inl rfl))
          simp only [Option.isSome_none, Option.getD_none] at t0 t1
          clear HST HOV HSTAY HOVER
          go_wp2_with fail
          go_roundw
          case rel => exact ⟨k + 1, by omega, by go_num, HF2.out⟩
          case measure => simp [intOf]; omega
        | some n =>
          simp only [Option.isSome_some, Option.getD_some] at t0 t1 hvl
          by_cases h2 : yy.kind < 2
          · have HF2 : Hid _ := HSTAY.out w10 HBX.out (HST.out (.inr (.inl h2)))
            have h2' : ¬ 2 ≤ yy.kind := by omega
            clear HST HOV HSTAY HOVER
            go_wp2_with fail
            go_roundw
            case rel => exact ⟨k + 1, by omega, by go_num, HF2.out⟩
            case measure => simp [intOf]; omega
          by_cases h4 : 4 < yy.kind
          · have HF2 : Hid _ := HSTAY.out w10 HBX.out (HST.out (.inr (.inr h4)))
            have h2' : 2 ≤ yy.kind := by omega
            have h4' : ¬ yy.kind ≤ 4 := by omega
            clear HST HOV HSTAY HOVER
            go_wp2_with fail
            go_roundw
            case rel => exact ⟨k + 1, by omega, by go_num, HF2.out⟩
            case measure => simp [intOf]; omega
          · obtain ⟨hth, hF⟩ := HOVER.out w10 n HBX.out hvl (HOV.out n rfl (by omega) (by omega))
            have HF2 : Hid _ := hF
            have h2' : 2 ≤ yy.kind := by omega
            have h4' : yy.kind ≤ 4 := by omega
            clear HST HOV HSTAY HOVER hF h2 h4
            go_wp2_with (first | (show wpList _ _ _ ({ dst := none, op := Op.store _ _ _, type := _, pos := _, after := _, guard := _ } :: _) _ _; (with_reducible refine wpl_store_ir (g := g) (o := k * 9) (d := yy.d) (n := n) (x := .tmp 66) (y := .tmp 65) ?a1 ?a2 ?a3 ?a4 hth ?a5); (case a1 => rfl); (case a2 => rfl); (case a3 => simp [go_sem, Act.eval]); (case a4 => simp [go_sem, Act.eval])) | go_in)
            go_roundw
            case rel => exact ⟨k + 1, by omega, by go_num, HF2.out⟩
            case measure => simp [intOf]; omega
      · have hdone : (foldL x.l).take k ++ x.l.drop k = foldL x.l := by
          have hl := foldL_len x.l
          rw [List.drop_of_length_le (by omega), List.append_nil, List.take_of_length_le (by omega)]
        have hout := hR.out
        rw [hdone] at hout
        obtain ⟨qa, qc, eq, hrowQ, hcq⟩ := Kind.own_rd (K := kIr) (T := fun j => j ≠ w.heap.size + 1) hout (fun j hj => by show j ≠ _; omega) (fun j e => by have h7 : g = j := Option.some.inj e; show j ≠ _; omega)
        rw [foldL_len] at eq hcq
        injection eq with q1 q2 q3
        subst q1
        subst q3
        have HQ : Hid _ := hrowQ
        have hy := (hR.kept.block w2.heap.size hlt3 (fun e => by omega)).trans HY6.out
        have hz := (hR.kept.block (w.heap.size + 1) hlt2 (fun e => by omega)).trans H26.out
        obtain ⟨j0, j1, j2, j3, j4⟩ := five hy
        obtain ⟨z0, z1, z2, z3, z4⟩ := five hz
        have hfz := brow_free hz
        have HZ : Hid _ := hz
        clear hR hb hout hrowQ hy hz HR
        go_wp2_with fail
        refine bodyPost_ret_by (results_row2 Try.results13 rfl rfl (load_co (set5 HZ.out) rfl)) rfl ?_
        have hS5 : ∀ b, b ≠ w.heap.size + 1 → ∀ y0 y1 y2 y3 y4, (((((wr.setCell ⟨w.heap.size + 1, 0, none⟩ y0).setCell ⟨w.heap.size + 1, 1, none⟩ y1).setCell ⟨w.heap.size + 1, 2, none⟩ y2).setCell ⟨w.heap.size + 1, 3, none⟩ y3).setCell ⟨w.heap.size + 1, 4, none⟩ y4).heap[b]? = wr.heap[b]? := fun b hb y0 y1 y2 y3 y4 =>
          (setCell_other hb).trans ((setCell_other hb).trans ((setCell_other hb).trans ((setCell_other hb).trans (setCell_other hb))))
        unfold RefPost
        rw [HF.out]
        have hl : (foldC x).l.length = x.l.length := foldL_len x.l
        refine ⟨pa, pc, some ⟨g, 0, none⟩, c5, ?_, ⟨HIN.out.pc, by rw [hl]; exact hcq, kTy.row_mono (by decide) HIN.out.ps fun b _ hlt => ⟨trivial, (hS5 b (by omega) _ _ _ _ _).trans (HB.out.block b hlt)⟩, kIr.row_mono (by decide) HQ.out fun b hb _ => ⟨trivial, hS5 b hb _ _ _ _ _⟩⟩, bl_set5 HB.out (by omega) _ _ _ _ _⟩
        unfold coV
        rw [hl]
        rfl
  · have hr' : ((rightR x).1 == 0) = false := by simpa using hr
    have HF : Hid (foldT x = (noCo, (rightR x).1)) := foldT_no hr
    generalize (rightR x).1 = er at hri hr' HF
    generalize (rightR x).2 = at0 at hri
    go_enter Try.func13, Try.ntmps13
    go_upto_region 2 with (first | (go_at_call 24; refine hri.mono ?_; rintro e w2 ⟨rfl, hb2⟩))
    have h22 := (hb2.block _ (lt_of_some H2.out)).trans H2.out
    have HB2 : Hid _ := bl_then HB0.out hb2
    have H22 : Hid _ := h22
    obtain ⟨c0, c1, c2, c3, c4⟩ := five h22
    have hf := brow_free h22
    clear hri hb2 h22 H1 H2 HB0
    go_wp2_with fail
    refine bodyPost_ret_by (results_row2 Try.results13 rfl rfl (load_co (set5 H22.out) rfl)) rfl ?_
    unfold RefPost
    rw [HF.out]
    exact ⟨none, 0, none, 0, rfl, ⟨Nat.le_refl _, Nat.le_refl _, trivial, trivial⟩, bl_set5 HB2.out (by omega) _ _ _ _ _⟩
end Go.Proofs.Ytclajapdbphlbaa
