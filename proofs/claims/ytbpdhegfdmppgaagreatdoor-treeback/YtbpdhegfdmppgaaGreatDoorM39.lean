/- Texts of this proof, put together: TUnitI, TUnits. -/
import Derived.Test.YtbpdhegfdmppgaaGreatDoorM36

/- CONTRACT of readUnit where it has an import. -/
namespace Go.Proofs.YtbpdhegfdmppgaaGreatDoor
open Go.ChangeShapes Go.WideShapes Go.ChangeAt Go.RowKit

set_option maxHeartbeats 1600000 in
theorem unit_oddimport {B : Nat} {w : World} (l : List Nd) (a : Option Addr) (c : Nat) (hg : Glob B w) (hw : wokL l) (hrow : Row (fun b => b < B) w a l) (hc : l.length ≤ c) (ks : List Nd) (q : Int) (wi : List UInt8) (ki : List Nd) (qi : Int) (l7 : List Nd) (hl : l = .mk true [] ks q :: .mk true wi ki qi :: l7) (l3 : List Nd) (HR3 : Hid (rdBy (rdSkipOf [117, 110, 105, 116]) q ks = .ok ((), l3))) (t4 : List UInt8) (HR4 : Hid (rdBy rdNameOf q l3 = .ok (t4, []))) (HBG : Hid (begins [105, 109, 112, 111, 114, 116] (.mk true wi ki qi :: l7) = true)) (x y : Int) (hx : x = 6) (hy : qi = y) (hent : (!true || !wi.isEmpty) = true) :
    Calls Tryz.prog 29 #[.slice a l.length c] w fun e w' => e = .panicked (flt x y) ∧ Below w.heap.size w w' := by
  subst hl hx hy
  have hB := hg.le
  have hf0 := Rh.boxed 30 #[.string ⟨#[]⟩, .slice none 0 0, .slice none 0 0] #[.string ⟨#[]⟩, .slice none 0 0, .slice none 0 0] hg hw hrow hc
  simp only [List.length_cons] at hf0
  go_enter Tryz.func29, Tryz.ntmps29
  go_wp2_with (go_at_call 56; refine (next_ok true [] ks q hf0.rs).mono ?_; rintro e w1 ⟨a1, c1, rfl, hrow1, hcap1, hR1, hK1⟩)
  go_wp2_with (go_at_call 55; refine (enter_ok (B := B) ks q a1 c1 hR1.glob.le hR1.glob hf0.rs.wok.1.2 hrow1 hcap1).mono ?_; rintro e w2 ⟨r2, rfl, hr2, hR2, hb2⟩; have hl2 := Nat.lt_of_lt_of_le (Nat.lt_of_lt_of_le hf0.rs.lt hK1.size) hr2; have hf2 := (hf0.step hK1 hR1).on hb2; have c2 := hf2.cell; have z2 := hf2.free; have s2 := hf2.lt; have rs2 := hf2.rlt)
  go_wp2_with (go_at_call 57; refine (skip_tk [117, 110, 105, 116] hR2).mono ?_; rintro e w3 hG3; obtain ⟨hR3, v3, rfl, rfl⟩ := hG3.ok _ _ HR3.out; have hf3 := hf2.other hG3.kept (by omega) (by omega) (by omega) (fun i e => by omega); clear c2 z2; have c3 := hf3.cell; have z3 := hf3.free; have s3 := hf3.lt; have rs3 := hf3.rlt)
  go_wp2_with (go_at_call 58; refine (name_tk hR3).mono ?_; rintro e w4 hG4; obtain ⟨hR4, v4, rfl, rfl⟩ := hG4.ok _ _ HR4.out; have hf4 := hf3.other hG4.kept (by omega) (by omega) (by omega) (fun i e => by omega); clear c3 z3; have c4 := hf4.cell; have z4 := hf4.free; have s4 := hf4.lt; have rs4 := hf4.rlt; have hg4 := hf4.set 0 (.string (bs t4)) (xc' := #[.string (bs t4), .slice none 0 0, .slice none 0 0]) rfl; have hR4' := hR4.keep (Kept.set w4 (w.heap.size + 1) 0 (.string (bs t4))) (fun k e => by omega) (by omega))
  go_wp2_with (go_at_call 59; refine (end_rs hR4').mono ?_; simp only [rdEnd, endOf]; rintro e w5 ⟨rfl, hb5⟩; have hf5 := hg4.on hb5; have c5 := hf5.cell; have z5 := hf5.free; have s5 := hf5.lt; have rs5 := hf5.rlt)
  go_wp2_with (go_at_call 60; refine (begins_rs [105, 109, 112, 111, 114, 116] hf5.rs).mono ?_; rw [HBG.out]; rintro e w6 ⟨rfl, hb6⟩; have hf6 := hf5.on hb6; clear c5 z5; have c6 := hf6.cell; have z6 := hf6.free; have s6 := hf6.lt; have rs6 := hf6.rlt)
  go_wp2_with (go_at_call 56; refine (next_ok true wi ki qi hf6.rs).mono ?_; rintro e w14 ⟨a14, c14, rfl, hrow14, hcap14, hR14, hK14⟩)
  go_wp2_with (go_at_call 55; refine (enter_bad _ _ _ _ _ _ hent).mono ?_; rintro e w15 ⟨rfl, hb15⟩)
  exact ⟨rfl, rfl, Below.then (hf6.step hK14 hR14).below hb15⟩
set_option maxHeartbeats 1600000 in
theorem unit_badimport {B : Nat} {w : World} (l : List Nd) (a : Option Addr) (c : Nat) (hg : Glob B w) (hw : wokL l) (hrow : Row (fun b => b < B) w a l) (hc : l.length ≤ c) (ks : List Nd) (q : Int) (ki : List Nd) (qi : Int) (l7 : List Nd) (hl : l = .mk true [] ks q :: .mk true [] ki qi :: l7) (l3 : List Nd) (HR3 : Hid (rdBy (rdSkipOf [117, 110, 105, 116]) q ks = .ok ((), l3))) (t4 : List UInt8) (HR4 : Hid (rdBy rdNameOf q l3 = .ok (t4, []))) (HBG : Hid (begins [105, 109, 112, 111, 114, 116] (.mk true [] ki qi :: l7) = true)) (x y : Int) (HRI : Hid (((rdImports qi ki).bind fun x => Res.ok (x, ([] : List Nd))) = .bad x y)) :
    Calls Tryz.prog 29 #[.slice a l.length c] w fun e w' => e = .panicked (flt x y) ∧ Below w.heap.size w w' := by
  subst hl
  have hB := hg.le
  have hf0 := Rh.boxed 30 #[.string ⟨#[]⟩, .slice none 0 0, .slice none 0 0] #[.string ⟨#[]⟩, .slice none 0 0, .slice none 0 0] hg hw hrow hc
  simp only [List.length_cons] at hf0
  go_enter Tryz.func29, Tryz.ntmps29
  go_wp2_with (go_at_call 56; refine (next_ok true [] ks q hf0.rs).mono ?_; rintro e w1 ⟨a1, c1, rfl, hrow1, hcap1, hR1, hK1⟩)
  go_wp2_with (go_at_call 55; refine (enter_ok (B := B) ks q a1 c1 hR1.glob.le hR1.glob hf0.rs.wok.1.2 hrow1 hcap1).mono ?_; rintro e w2 ⟨r2, rfl, hr2, hR2, hb2⟩; have hl2 := Nat.lt_of_lt_of_le (Nat.lt_of_lt_of_le hf0.rs.lt hK1.size) hr2; have hf2 := (hf0.step hK1 hR1).on hb2; have c2 := hf2.cell; have z2 := hf2.free; have s2 := hf2.lt; have rs2 := hf2.rlt)
  go_wp2_with (go_at_call 57; refine (skip_tk [117, 110, 105, 116] hR2).mono ?_; rintro e w3 hG3; obtain ⟨hR3, v3, rfl, rfl⟩ := hG3.ok _ _ HR3.out; have hf3 := hf2.other hG3.kept (by omega) (by omega) (by omega) (fun i e => by omega); clear c2 z2; have c3 := hf3.cell; have z3 := hf3.free; have s3 := hf3.lt; have rs3 := hf3.rlt)
  go_wp2_with (go_at_call 58; refine (name_tk hR3).mono ?_; rintro e w4 hG4; obtain ⟨hR4, v4, rfl, rfl⟩ := hG4.ok _ _ HR4.out; have hf4 := hf3.other hG4.kept (by omega) (by omega) (by omega) (fun i e => by omega); clear c3 z3; have c4 := hf4.cell; have z4 := hf4.free; have s4 := hf4.lt; have rs4 := hf4.rlt; have hg4 := hf4.set 0 (.string (bs t4)) (xc' := #[.string (bs t4), .slice none 0 0, .slice none 0 0]) rfl; have hR4' := hR4.keep (Kept.set w4 (w.heap.size + 1) 0 (.string (bs t4))) (fun k e => by omega) (by omega))
  go_wp2_with (go_at_call 59; refine (end_rs hR4').mono ?_; simp only [rdEnd, endOf]; rintro e w5 ⟨rfl, hb5⟩; have hf5 := hg4.on hb5; have c5 := hf5.cell; have z5 := hf5.free; have s5 := hf5.lt; have rs5 := hf5.rlt)
  go_wp2_with (go_at_call 60; refine (begins_rs [105, 109, 112, 111, 114, 116] hf5.rs).mono ?_; rw [HBG.out]; rintro e w6 ⟨rfl, hb6⟩; have hf6 := hf5.on hb6; clear c5 z5; have c6 := hf6.cell; have z6 := hf6.free; have s6 := hf6.lt; have rs6 := hf6.rlt)
  go_wp2_with (go_at_call 56; refine (next_ok true [] ki qi hf6.rs).mono ?_; rintro e w14 ⟨a14, c14, rfl, hrow14, hcap14, hR14, hK14⟩)
  go_wp2_with (go_at_call 55; refine (enter_ok (B := B) ki qi a14 c14 hR14.glob.le hR14.glob hf6.rs.wok.1.2 hrow14 hcap14).mono ?_; rintro e w15 ⟨r15, rfl, hr15, hR15, hb15⟩; have hl15 := Nat.lt_of_lt_of_le (Nat.lt_of_lt_of_le hf6.rs.lt hK14.size) hr15; have hf15 := (hf6.step hK14 hR14).on hb15; clear c6 z6)
  go_wp2_with (go_at_call 61; refine (imports_rs hR15).mono ?_; rintro e w16 hG16; obtain rfl := hG16.bad _ _ HRI.out)
  exact ⟨rfl, rfl, below_past hf15.below hG16.kept fun i e => by omega⟩
set_option maxHeartbeats 12800000 in
set_option maxRecDepth 20000 in
theorem unit_imports {B : Nat} {w : World} (l : List Nd) (a : Option Addr) (c : Nat) (hg : Glob B w) (hw : wokL l) (hrow : Row (fun b => b < B) w a l) (hc : l.length ≤ c) (ks : List Nd) (q : Int) (ki : List Nd) (qi : Int) (l7 : List Nd) (hl : l = .mk true [] ks q :: .mk true [] ki qi :: l7) (l3 : List Nd) (HR3 : Hid (rdBy (rdSkipOf [117, 110, 105, 116]) q ks = .ok ((), l3))) (t4 : List UInt8) (HR4 : Hid (rdBy rdNameOf q l3 = .ok (t4, []))) (HBG : Hid (begins [105, 109, 112, 111, 114, 116] (.mk true [] ki qi :: l7) = true)) (im : List (List UInt8)) (HRI : Hid (((rdImports qi ki).bind fun x => Res.ok (x, ([] : List Nd))) = .ok (im, []))) (hs7 : szL l7 ≤ 1000000000) :
    Calls Tryz.prog 29 #[.slice a l.length c] w (Gives UnV w ((rdFuncs 0 l7).bind fun fs => .ok ⟨t4, im, fs⟩)) := by
  subst hl
  obtain ⟨i0, hi0, hz0, hz1, hz2⟩ := info_parts funcs_info
  have hB := hg.le
  have hf0 := Rh.boxed 30 #[.string ⟨#[]⟩, .slice none 0 0, .slice none 0 0] #[.string ⟨#[]⟩, .slice none 0 0, .slice none 0 0] hg hw hrow hc
  simp only [List.length_cons] at hf0
  go_enter Tryz.func29, Tryz.ntmps29
  go_wp2_with (go_at_call 56; refine (next_ok true [] ks q hf0.rs).mono ?_; rintro e w1 ⟨a1, c1, rfl, hrow1, hcap1, hR1, hK1⟩)
  go_wp2_with (go_at_call 55; refine (enter_ok (B := B) ks q a1 c1 hR1.glob.le hR1.glob hf0.rs.wok.1.2 hrow1 hcap1).mono ?_; rintro e w2 ⟨r2, rfl, hr2, hR2, hb2⟩; have hl2 := Nat.lt_of_lt_of_le (Nat.lt_of_lt_of_le hf0.rs.lt hK1.size) hr2; have hf2 := (hf0.step hK1 hR1).on hb2; have c2 := hf2.cell; have z2 := hf2.free; have s2 := hf2.lt; have rs2 := hf2.rlt)
  go_wp2_with (go_at_call 57; refine (skip_tk [117, 110, 105, 116] hR2).mono ?_; rintro e w3 hG3; obtain ⟨hR3, v3, rfl, rfl⟩ := hG3.ok _ _ HR3.out; have hf3 := hf2.other hG3.kept (by omega) (by omega) (by omega) (fun i e => by omega); clear c2 z2; have c3 := hf3.cell; have z3 := hf3.free; have s3 := hf3.lt; have rs3 := hf3.rlt)
  go_wp2_with (go_at_call 58; refine (name_tk hR3).mono ?_; rintro e w4 hG4; obtain ⟨hR4, v4, rfl, rfl⟩ := hG4.ok _ _ HR4.out; have hf4 := hf3.other hG4.kept (by omega) (by omega) (by omega) (fun i e => by omega); clear c3 z3; have c4 := hf4.cell; have z4 := hf4.free; have s4 := hf4.lt; have rs4 := hf4.rlt; have hg4 := hf4.set 0 (.string (bs t4)) (xc' := #[.string (bs t4), .slice none 0 0, .slice none 0 0]) rfl; have hR4' := hR4.keep (Kept.set w4 (w.heap.size + 1) 0 (.string (bs t4))) (fun k e => by omega) (by omega))
  go_wp2_with (go_at_call 59; refine (end_rs hR4').mono ?_; simp only [rdEnd, endOf]; rintro e w5 ⟨rfl, hb5⟩; have hf5 := hg4.on hb5; have c5 := hf5.cell; have z5 := hf5.free; have s5 := hf5.lt; have rs5 := hf5.rlt)
  go_wp2_with (go_at_call 60; refine (begins_rs [105, 109, 112, 111, 114, 116] hf5.rs).mono ?_; rw [HBG.out]; rintro e w6 ⟨rfl, hb6⟩; have hf6 := hf5.on hb6; clear c5 z5; have c6 := hf6.cell; have z6 := hf6.free; have s6 := hf6.lt; have rs6 := hf6.rlt)
  go_wp2_with (go_at_call 56; refine (next_ok true [] ki qi hf6.rs).mono ?_; rintro e w14 ⟨a14, c14, rfl, hrow14, hcap14, hR14, hK14⟩)
  go_wp2_with (go_at_call 55; refine (enter_ok (B := B) ki qi a14 c14 hR14.glob.le hR14.glob hf6.rs.wok.1.2 hrow14 hcap14).mono ?_; rintro e w15 ⟨r15, rfl, hr15, hR15, hb15⟩; have hl15 := Nat.lt_of_lt_of_le (Nat.lt_of_lt_of_le hf6.rs.lt hK14.size) hr15; have hf15 := (hf6.step hK14 hR14).on hb15; clear c6 z6)
  go_wp2_with (go_at_call 61; refine (imports_rs hR15).mono ?_; rintro e w16 hG16; obtain ⟨hR16, v16, rfl, ia, ic, rfl, hir16, hic16⟩ := hG16.ok _ _ HRI.out; have hf16 := hf15.other hG16.kept (by omega) (by omega) (by omega) (fun i e => by omega); have c16 := hf16.cell; have z16 := hf16.free; have s16 := hf16.lt; have rs16 := hf16.rlt; have hg16 := hf16.set 1 (.slice ia im.length ic) (xc' := #[.string (bs t4), .slice ia im.length ic, .slice none 0 0]) rfl)
  have hir0 : kStr.row (w16.setCell ⟨w.heap.size + 1, 1, none⟩ (.slice ia im.length ic)) (fun b => w.heap.size + 2 < b ∧ b < w16.heap.size) ia im := by
    refine kStr.row_mono (by show 0 < 1; omega) hir16 fun b (hb : w15.heap.size ≤ b) hl => ⟨⟨by have := hf15.rs.lt; omega, hl⟩, setCell_other (by have := hf15.rs.lt; omega)⟩
  have hlim : w.heap.size + 2 < w16.heap.size := hf16.rs.lt
  go_loopw [] (fun wr => ∃ (acc : List Fu) (l' : List Nd) (v : Value), acc.length ≤ 16 ∧ w16.heap.size ≤ wr.heap.size ∧ kFu.own 47 wr (Own w16.heap.size v) w16.heap.size v acc ∧ Rh B w wr (w.heap.size + 2) l' 0 30 w.heap.size #[.string ⟨#[]⟩, .slice none 0 0, .slice none 0 0] (w.heap.size + 1) #[.string (bs t4), .slice ia im.length ic, v] ∧ szL l' ≤ 1000000000 ∧ kStr.row wr (fun b => w.heap.size + 2 < b ∧ b < w16.heap.size) ia im ∧
    (rdFuncs 0 l7).bind (fun fs => Res.ok (Un.mk t4 im fs)) = ((rdFuncs acc.length l').bind fun x => .ok (acc ++ x)).bind fun fs => .ok ⟨t4, im, fs⟩) (fun wr => leftAt wr (w.heap.size + 2))
  case atStart => exact ⟨[], l7, .slice none 0 0, Nat.zero_le _, by simp [World.setCell], kFu.own_none _ _ _ _, hg16, hs7, hir0, by rw [List.length_nil]; cases rdFuncs 0 l7 <;> rfl⟩
  case round =>
    obtain ⟨acc, l', v, hk, hwl, hown, hR, hszl, hir, hsp⟩ := hrel
    have HS : Hid _ := hsp
    have HIR : Hid (kStr.row wr (fun b => w.heap.size + 2 < b ∧ b < w16.heap.size) ia im) := hir
    clear hsp
    obtain ⟨vx, vc, rfl⟩ := kFu.own_form hown
    have HO : Hid (kFu.own 47 wr (Own w16.heap.size (.slice vx acc.length vc)) w16.heap.size (.slice vx acc.length vc) acc) := hown
    clear hown c16 z16 hir hir0
    have HV : Hid (∀ g, (Value.slice vx acc.length vc).ownBlock = some g → w16.heap.size ≤ g ∧ g < wr.heap.size) := kFu.own_lt HO.out
    have HNR : Hid (∀ k, k < w16.heap.size → ¬ (Value.slice vx acc.length vc).ownBlock = some k) := fun k hk e => by have := (HV.out k e).1; omega
    have HGE : Hid (∀ k, (Value.slice vx acc.length vc).ownBlock = some k → w.heap.size ≤ k) := fun k e => by have := (HV.out k e).1; omega
    have hmore := more_rs hR.rs
    have cr := hR.cell
    have zr := hR.free
    have sr := hR.lt
    cases l' with
    | nil =>
      go_wp2_with (first | (go_at_call 62; refine hmore.mono ?_; rintro e w7 ⟨rfl, hq⟩; have hq' := hq.symm; subst hq') | (refine wpList_load_row rfl 30 (.tmp 3) rfl (w.heap.size + 1) rfl 30 #[.string (bs t4), .slice ia im.length ic, .slice vx acc.length vc] (0, 0) _ hR.x Tryz.underlying30 rfl info_unit ?_) | (refine wpList_store_row rfl 30 (.tmp 2) _ rfl w.heap.size #[.string (bs t4), .slice ia im.length ic, .slice vx acc.length vc] rfl rfl 30 #[.string ⟨#[]⟩, .slice none 0 0, .slice none 0 0] hR.res info_unit rfl (by simp [Value.oneCell']) ?_))
      have hEn := setRow_at (cs := #[.string (bs t4), .slice ia im.length ic, .slice vx acc.length vc]) hR.res
      have hKw := setRow_kept (b := w.heap.size) #[.string (bs t4), .slice ia im.length ic, .slice vx acc.length vc] (Below.kept hR.below (fun _ => False)) (Nat.le_refl _)
      have hKb := setRow_in wr w.heap.size #[.string (bs t4), .slice ia im.length ic, .slice vx acc.length vc]
      generalize World.setRow _ _ _ = W at hEn hKw hKb ⊢
      refine bodyPost_ret_by (results_row Tryz.results29 rfl (load_unit hEn rfl)) rfl ?_
      obtain ⟨xa, xc, hxe, hxr, hxc⟩ := kFu.own_rd (kFu.own_keep HO.out hKb (fun k e => by omega)) (T := fun b => w.heap.size ≤ b) (fun b hb => by have := hb.1; omega) (fun g hg => by have := (HV.out g hg).1; omega)
      cases hxe
      exact .ofOk (x := Un.mk t4 im acc) (by rw [HS.out, rdFuncs_nil]; simp) (none_below hKw) ⟨ia, ic, _, _, rfl, hic16, hxc, kStr.row_mono (by show 0 < 1; omega) HIR.out fun b hb hl => ⟨by omega, hKb.block b hl (by omega)⟩, hxr⟩
    | cons nd l6 =>
      obtain ⟨il, wd, ks9, q9⟩ := nd
      have hwok := hR.rs.wok.1
      have hsz9 : (Nd.mk il wd ks9 q9).sz ≤ 1000000000 := by simp only [szL] at hszl; omega
      have hsz6 : szL l6 ≤ 1000000000 := by simp only [szL] at hszl; omega
      have hdec : decide (0 < (Nd.mk il wd ks9 q9 :: l6).length) = true := by simp
      rw [hdec] at hmore
      clear hdec hszl
      have hRd := (hR.on (drew_below wr)).rs
      by_cases h16 : 16 ≤ acc.length
      · have HB : Hid ((rdFuncs 0 l7).bind (fun fs => Res.ok (Un.mk t4 im fs)) = .bad 5 q9) := by show _ = _; rw [HS.out, rdFuncs_cons, if_pos h16]; rfl
        go_wp2_with (go_at_call 62; refine hmore.mono ?_; rintro e w7 ⟨rfl, hq⟩; have hq' := hq.symm; subst hq')
        go_region_law ((refine step_call rfl 64 _ _ rfl #[.pointer (some ⟨w.heap.size + 2, 0, none⟩), .int .i64 acc.length, .int .i64 16] (by simp [go_sem, Act.eval]) ?_; refine (nextOf_long il wd ks9 q9 acc.length 16 h16 hRd).mono ?_; rintro e w8 ⟨rfl, hK8⟩; refine (fun (_ : wpAny Tryz.prog Region.Mode.any #[] (fun _ _ _ => True) 0 #[] ⟨#[], []⟩ wr) => ⟨rfl, .ofBad (by rw [HB.out]) (none_below (((Below.kept (Below.then hR.below (drew_below wr)) (fun _ => False))).past hK8 (fun i e => by omega)))⟩) ?_))
        all_goals trivial
      · have HS2 : Hid ((rdFuncs 0 l7).bind (fun fs => Res.ok (Un.mk t4 im fs)) = (((rdFunc (.mk il wd ks9 q9)).bind fun f => (rdFuncs (acc.length + 1) l6).bind fun x => .ok (f :: x)).bind fun x => .ok (acc ++ x)).bind fun fs => .ok ⟨t4, im, fs⟩) := by show _ = _; rw [HS.out, rdFuncs_cons, if_neg h16]
        clear HS
        cases hrf : rdFunc (.mk il wd ks9 q9) with
        | bad x y =>
          have HRF : Hid (rdFunc (.mk il wd ks9 q9) = .bad x y) := hrf
          have HB : Hid ((rdFuncs 0 l7).bind (fun fs => Res.ok (Un.mk t4 im fs)) = .bad x y) := by show _ = _; rw [HS2.out, hrf]; rfl
          clear hrf
          go_wp2_with (go_at_call 62; refine hmore.mono ?_; rintro e w7 ⟨rfl, hq⟩; have hq' := hq.symm; subst hq')
          go_region_law ((first | (refine step_call rfl 64 _ _ rfl #[.pointer (some ⟨w.heap.size + 2, 0, none⟩), .int .i64 acc.length, .int .i64 16] (by simp [go_sem, Act.eval]) ?_; refine (nextOf_ok il wd ks9 q9 acc.length 16 (by omega) hRd).mono ?_; rintro e w8 ⟨a8, c8, rfl, hrow8, hcap8, hR8, hK8⟩; have hf8 := (hR.on (drew_below wr)).step hK8 hR8; have c8' := hf8.cell; have z8' := hf8.free; have s8' := hf8.lt; have s8'' : w.heap.size + 1 < w8.heap.size := hf8.lt) | (refine step_call rfl 63 _ _ rfl #[.agg #[.bool il, .string (bs wd), .slice a8 ks9.length c8, .int .i64 q9]] (by simp [go_sem, Act.eval]) ?_; refine (func_any il wd ks9 q9 a8 c8 hR8.glob hwok hrow8 hcap8 (by omega)).mono ?_; rintro e w9 hG9; obtain rfl := hG9.bad _ _ HRF.out; refine (fun (_ : wpAny Tryz.prog Region.Mode.any #[] (fun _ _ _ => True) 0 #[] ⟨#[], []⟩ wr) => ⟨rfl, .ofBad (by rw [HB.out]) (Below.then hf8.below hG9.below)⟩) ?_)))
          all_goals trivial
        | ok x =>
          have HRF : Hid (rdFunc (.mk il wd ks9 q9) = .ok x) := hrf
          clear hrf
          go_wp2_with (go_at_call 62; refine hmore.mono ?_; rintro e w7 ⟨rfl, hq⟩; have hq' := hq.symm; subst hq')
          go_region_law ((first | (refine step_call rfl 64 _ _ rfl #[.pointer (some ⟨w.heap.size + 2, 0, none⟩), .int .i64 acc.length, .int .i64 16] (by simp [go_sem, Act.eval]) ?_; refine (nextOf_ok il wd ks9 q9 acc.length 16 (by omega) hRd).mono ?_; rintro e w8 ⟨a8, c8, rfl, hrow8, hcap8, hR8, hK8⟩; have hf8 := (hR.on (drew_below wr)).step hK8 hR8; have c8' := hf8.cell; have z8' := hf8.free; have s8' := hf8.lt; have s8'' : w.heap.size + 1 < w8.heap.size := hf8.lt) | (refine step_call rfl 63 _ _ rfl #[.agg #[.bool il, .string (bs wd), .slice a8 ks9.length c8, .int .i64 q9]] (by simp [go_sem, Act.eval]) ?_; refine (func_any il wd ks9 q9 a8 c8 hR8.glob hwok hrow8 hcap8 (by omega)).mono ?_; rintro e w9 hG9; obtain ⟨v9, rfl, cs, rfl, hC⟩ := hG9.ok _ HRF.out; have hf9 := hf8.on hG9.below; have c9 := hf9.cell; have z9 := hf9.free; have s9 := hf9.lt; have hl9 : cs.length = 9 := kFu.len hC; have hfill := func_fill hl9; have hw9 := hG9.below.size; have hw8 := hK8.size; have hk9 : Kept (fun k => k = w.heap.size + 2) wr w9 := ((Below.kept (drew_below wr) (fun k => k = w.heap.size + 2)).trans hK8).on hG9.below; obtain ⟨xs, ho, hlay⟩ := kFu.own_keep HO.out hk9 (fun k e => by omega)) | (refine step_append_lies _ (by rfl) _ _ _ (by rfl) w16.heap.size 47 i0 _ 9 136 Tryz.underlying28 hi0 hz0 hz1 hz2 rfl (by omega) (.slice vx acc.length vc) acc.length xs (by rfl) (ho.alloc _) ⟨w9.heap.size, 0, none⟩ 1 1 cs (by rfl) (kFu.len hC) (World.news_of_block (cs := cs.toArray) (t := 47) (fr := (0, 0)) (heap_alloc_new w9 _)) (kFu.one hC) (by omega) (by unfold maxLen; omega) (by omega) (by have := hk9.size; simp; omega) (w9.heap.size + 1) (by simp) ?_; intro g cap w10 hown10 hgrow hat hltg; have hk10 := (Kept.alloc w9 (.cells cs.toArray 47) (fun k => (Value.slice vx acc.length vc).ownBlock = some k)).trans (Kept.of_grown hgrow); have hf10 := hf9.other hk10 (HNR.out _ (by omega)) (HNR.out _ (by omega)) (HNR.out _ (by omega)) (fun i e => HGE.out i e); have c10 := hf10.cell; have z10 := hf10.free)))
          all_goals go_wp2_with fail
          all_goals
            obtain ⟨hnew, hk11⟩ := kFu.append_all (x := x) hlay (kFu.mono hC fun b (hb : w8.heap.size ≤ b) hl => ⟨⟨by have h2 : wr.heap.size ≤ w8.heap.size := hK8.size; omega, fun e => by have h1 := (HV.out b e).2; have h2 : wr.heap.size ≤ w8.heap.size := hK8.size; omega⟩, rfl⟩) hown10 hgrow hat
            have hR12 := hf10.set 2 (.slice (some ⟨g, 0, none⟩) (acc.length + 1) cap) (xc' := #[.string (bs t4), .slice ia im.length ic, .slice (some ⟨g, 0, none⟩) (acc.length + 1) cap]) rfl
            refine ⟨⟨acc ++ [x], l6, .slice (some ⟨g, 0, none⟩) (acc.length + 1) cap, by simp; omega, by have := hk10.size; have := hk9.size; simp [World.setCell]; omega, ?_, hR12, hsz6, ?_, ?_⟩, ?_⟩
            · exact kFu.own_keep (by simpa using hnew) (Kept.set w10 (w.heap.size + 1) 2 _) (fun k e => by omega)
            · exact kStr.row_mono (by show 0 < 1; omega) HIR.out fun b hb hl => ⟨hb, by rw [setCell_other (by omega), hk10.block b (Nat.lt_of_lt_of_le hl hk9.size) (HNR.out b hb.2), hk9.block b hl (by omega)]⟩
            · rw [HS2.out, HRF.out, List.length_append, List.length_singleton]
              simp only [Res.bind_ok]
              cases rdFuncs (acc.length + 1) l6 <;> simp
            · rw [hR12.rs.left, hR.rs.left]; simp
end Go.Proofs.YtbpdhegfdmppgaaGreatDoor

/- CONTRACT of readUnit, for all nodes. -/
namespace Go.Proofs.YtbpdhegfdmppgaaGreatDoor
open Go.ChangeShapes Go.WideShapes Go.ChangeAt Go.RowKit

theorem begins_form {v : List UInt8} {l : List Nd} (h : begins v l = true) : ∃ wi ki qi l7, l = .mk true wi ki qi :: l7 := by
  cases l with
  | nil => cases h
  | cons n l =>
    obtain ⟨il, wd, ks, q⟩ := n
    cases il with
    | true => exact ⟨wd, ks, q, l, rfl⟩
    | false => cases h

theorem readUnit_any {B : Nat} {w : World} (l : List Nd) (a : Option Addr) (c : Nat) (hg : Glob B w) (hw : wokL l) (hrow : Row (fun b => b < B) w a l) (hc : l.length ≤ c) (hs : szL l ≤ 1000000000) :
    Calls Tryz.prog 29 #[.slice a l.length c] w (Gives UnV w (rdUnit l)) := by
  cases hl : l with
  | nil => rw [← hl]; exact Gives.of_bad (by rw [hl]; rfl) (unit_none l a c hg hw hrow hc 6 0 rfl rfl hl)
  | cons nd l1 =>
    obtain ⟨il, wd, ks, q⟩ := nd
    rw [← hl]
    by_cases hent : (!il || !wd.isEmpty) = true
    · have hx : rdEnter (.mk il wd ks q) = .bad 6 q := by rw [rdEnter, if_pos hent]
      exact Gives.of_bad (by rw [hl]; simp only [rdUnit, rdBy_bad _ _ hx, Res.bind_bad]) (unit_odd l a c hg hw hrow hc il wd ks q l1 hl 6 q rfl rfl hent)
    · obtain ⟨hil, hwd⟩ : il = true ∧ wd = [] := by simpa using hent
      subst hil hwd
      clear hent
      have hx : rdEnter (.mk true [] ks q) = .ok (ks, q) := rfl
      have hs1 : szL l1 ≤ 1000000000 := by rw [hl] at hs; simp only [szL] at hs; omega
      cases h3 : rdBy (rdSkipOf [117, 110, 105, 116]) q ks with
      | bad x y => exact Gives.of_bad (by rw [hl]; simp only [rdUnit, rdBy_ok _ _ hx, h3, Res.bind_ok, Res.bind_bad]) (unit_skip l a c hg hw hrow hc ks q l1 hl x y h3)
      | ok y3 =>
        obtain ⟨⟨⟩, l3⟩ := y3
        cases h4 : rdBy rdNameOf q l3 with
        | bad x y => exact Gives.of_bad (by rw [hl]; simp only [rdUnit, rdBy_ok _ _ hx, h3, h4, Res.bind_ok, Res.bind_bad]) (unit_name l a c hg hw hrow hc ks q l1 hl l3 h3 x y h4)
        | ok y4 =>
          obtain ⟨t4, l4⟩ := y4
          cases l4 with
          | cons n5 l5 =>
            obtain ⟨il5, wd5, ks5, q5⟩ := n5
            exact Gives.of_bad (by rw [hl]; simp only [rdUnit, rdBy_ok _ _ hx, h3, h4, Res.bind_ok, rdEnd, Nd.pos, Res.bind_bad]) (unit_end l a c hg hw hrow hc ks q l1 hl l3 h3 t4 il5 wd5 ks5 q5 l5 6 q5 rfl rfl h4)
          | nil =>
            cases hb : begins [105, 109, 112, 111, 114, 116] l1 with
            | false =>
              have e : rdUnit l = (rdFuncs 0 l1).bind fun fs => .ok ⟨t4, [], fs⟩ := by rw [hl]; simp only [rdUnit, rdBy_ok _ _ hx, h3, h4, Res.bind_ok, rdEnd, hb]; simp
              rw [e]
              exact unit_plain l a c hg hw hrow hc ks q l1 hl l3 h3 t4 h4 hb hs1
            | true =>
              obtain ⟨wi, ki, qi, l7, rfl⟩ := begins_form hb
              by_cases hent : (!true || !wi.isEmpty) = true
              · have hy : rdEnter (.mk true wi ki qi) = .bad 6 qi := by rw [rdEnter, if_pos hent]
                exact Gives.of_bad (by rw [hl]; simp only [rdUnit, rdBy_ok _ _ hx, h3, h4, Res.bind_ok, rdEnd, hb, if_true, rdBy_bad _ _ hy, Res.bind_bad]) (unit_oddimport l a c hg hw hrow hc ks q wi ki qi l7 hl l3 h3 t4 h4 hb 6 qi rfl rfl hent)
              · have hwi : wi = [] := by simpa using hent
                subst hwi
                clear hent
                have hy : rdEnter (.mk true [] ki qi) = .ok (ki, qi) := rfl
                have hs7 : szL l7 ≤ 1000000000 := by simp only [szL] at hs1; omega
                cases hi : rdImports qi ki with
                | bad x y => exact Gives.of_bad (by rw [hl]; simp only [rdUnit, rdBy_ok _ _ hx, h3, h4, Res.bind_ok, rdEnd, hb, if_true, rdBy_ok _ _ hy, hi, Res.bind_bad]) (unit_badimport l a c hg hw hrow hc ks q ki qi l7 hl l3 h3 t4 h4 hb x y (by show _ = _; rw [hi]; rfl))
                | ok im =>
                  have e : rdUnit l = (rdFuncs 0 l7).bind fun fs => .ok ⟨t4, im, fs⟩ := by rw [hl]; simp only [rdUnit, rdBy_ok _ _ hx, h3, h4, Res.bind_ok, rdEnd, hb, if_true, rdBy_ok _ _ hy, hi]
                  rw [e]
                  exact unit_imports l a c hg hw hrow hc ks q ki qi l7 hl l3 h3 t4 h4 hb im (by show _ = _; rw [hi]; rfl) hs7
end Go.Proofs.YtbpdhegfdmppgaaGreatDoor
