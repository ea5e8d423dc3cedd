/- THE WALK of IrunRuns. -/
import Derived.Test.YtndmkfmpdnoliaaQIAwake
import Derived.Test.YtndmkfmpdnoliaaQRAll
import Derived.Test.YtndmkfmpdnoliaaQRun
import Derived.Test.YtndmkfmpdnoliaaISame
import Derived.Test.YtndmkfmpdnoliaaILight
namespace Go.Proofs.Ytndmkfmpdnoliaa
open Go.ChangeShapes Go.WideShapes Go.ChangeAt Go.RowKit

theorem wd_up {w w' : World} {a : Option Addr} {l : List Nat} (h : kWd.row w (fun _ => True) a l) (hb : Below w.heap.size w w') : kWd.row w' (fun _ => True) a l := kWd.row_mono (by decide) h fun b _ hlt => ⟨trivial, hb.block b hlt⟩
theorem in_up {w w' : World} {S : Nat → Prop} {a : Option Addr} {l : List Int} (h : kInt.row w S a l) (hb : Below w.heap.size w w') : kInt.row w' (fun _ => True) a l := kInt.row_mono (by decide) h fun b _ hlt => ⟨trivial, hb.block b hlt⟩
theorem wd_upS {w w' : World} {S : Nat → Prop} {a : Option Addr} {l : List Nat} (h : kWd.row w S a l) (hb : Below w.heap.size w w') : kWd.row w' (fun _ => True) a l := kWd.row_mono (by decide) h fun b _ hlt => ⟨trivial, hb.block b hlt⟩
theorem light_small {l : List Co} (h : lightB l = true) : ∀ c ∈ l, c.ps.length ≤ 1000000 ∧ c.l.length ≤ 1000000 := fun c hc => by
  simp only [lightB, Bool.and_eq_true, decide_eq_true_eq, List.all_eq_true] at h
  have := h.2 c hc
  simp only [coLight, coLight0, Bool.and_eq_true, decide_eq_true_eq] at this
  omega
set_option maxRecDepth 100000 in
set_option maxHeartbeats 8000000 in
theorem irun_runs {B : Nat} (a : Option Addr) (l : List Co) (cp : Nat) (nm : List UInt8) (aa : Option Addr) (ar : List Nat) (ac : Nat) (w : World) (hg : Glob B w) (hrow : kCo.row w (fun _ => True) a l) (har : kWd.row w (fun _ => True) aa ar) (hac : ar.length ≤ ac) :
    Calls Try.prog 3 #[.slice a l.length cp, .string (bs nm), .slice aa ar.length ac] w fun e w' => e = .returned (.bool true) ∧ Below w.heap.size w w' := by
  go_enter Try.func3, Try.ntmps3
  go_upto_region 2 with (first | (go_at_call 10; refine (awake_any _ hg).mono ?_; rintro e w2 ⟨rfl, hb2⟩))
  have hli := light_any _ _ l cp (co_up hrow hb2)
  rcases nL : lightB l with _ | _ <;> rw [nL] at hli
  · go_upto_region 3 with (first | (go_at_call 11; refine hli.mono ?_; rintro e w3 ⟨rfl, hb3⟩))
    have hB := Lib.hid (bl_then hb2 hb3)
    clear hb2 hb3 hli
    go_wp2
    go_ret
    exact ⟨rfl, hB.out⟩
  obtain ⟨hlen, hok⟩ := light_all nL
  have hsm := light_small nL
  go_upto_region 3 with (first | (go_at_call 11; refine hli.mono ?_; rintro e w3 ⟨rfl, hb3⟩))
  have HB : Hid _ := bl_then hb2 hb3
  clear hb2 hb3 hli
  have hbl : (bs nm).size = nm.length := bs_size nm
  by_cases h100 : 100 < nm.length
  · have h100' : (100 : Int) < ((bs nm).size : Int) := by omega
    have h100b : (100 : Int) < (nm.length : Int) := by omega
    go_wp2
    go_ret
    exact ⟨rfl, HB.out⟩
  have h100' : ¬ (100 : Int) < ((bs nm).size : Int) := by omega
  have h100b : ¬ (100 : Int) < (nm.length : Int) := by omega
  by_cases h200 : 200 < ar.length
  · have h200' : (200 : Int) < (ar.length : Int) := by omega
    go_wp2
    go_ret
    exact ⟨rfl, HB.out⟩
  have h200' : ¬ (200 : Int) < (ar.length : Int) := by omega
  have hr4 := run_any (S := fun _ => True) (S' := fun _ => True) a l cp nm aa ar ac w3 (co_up hrow HB.out) hok (by omega) (hg.below HB.out) (by omega) (wd_up har HB.out) hac
  have hrr := fun (W : World) (hW : Below w.heap.size w W) => refRun_any a l cp nm aa ar ac W (co_up hrow hW) hok hsm (by omega) (wd_up har hW) hac
  have hbd := runR_bd l nm ar
  unfold RunTells at hr4
  unfold RRunTells at hrr
  generalize runR l nm ar = R at hr4 hrr hbd
  obtain ⟨r0, zs, br, er⟩ := R
  have HRR : Hid _ := hrr
  clear hrr
  go_upto_region 6 with (first | (go_at_call 12; refine hr4.mono ?_; rintro e w9 ⟨ya, yc, ba, bc, rfl, hya, hyc, hba, hbc, hb9⟩))
  have hbb := bl_alloc (Below.refl w9.heap.size w9) (.cells #[.int .u32 (r0 : Int), .slice ya zs.length yc] 28)
  have hO := heap_alloc_new w9 (.cells #[.int .u32 (r0 : Int), .slice ya zs.length yc] 28)
  have hB10 := bl_then HB.out (bl_then hb9 hbb)
  have hya10 := wd_upS hya hbb
  have hba10 := in_up hba hbb
  obtain ⟨X, hX⟩ : ∃ X, w9.heap.size = X := ⟨_, rfl⟩
  generalize World.alloc w9 _ = w10 at hO hB10 hya10 hba10 ⊢
  rw [hX] at hO ⊢
  have HO10 : Hid _ := hO
  have HB10 : Hid _ := hB10
  have HY10 : Hid _ := hya10
  have HI10 : Hid _ := hba10
  have hr11 := HRR.out w10 hB10
  clear hr4 hb9 hbb hya hba hO hB10 hya10 hba10 hX
  go_upto_region 7 with (first | (go_at_call 13; refine hr11.mono ?_; rintro e w12 ⟨za, zc, da, dc, rfl, hza, hda, hb12⟩))
  have hbb := bl_alloc (Below.refl w12.heap.size w12) (.cells #[.int .u32 (r0 : Int), .slice za zs.length zc] 28)
  have hP := heap_alloc_new w12 (.cells #[.int .u32 (r0 : Int), .slice za zs.length zc] 28)
  have hb13 := bl_then hb12 hbb
  have hO13 := (hb13.block _ (lt_of_some HO10.out)).trans HO10.out
  have HB13 : Hid _ := bl_then HB10.out hb13
  have hy13 := wd_up HY10.out hb13
  have hz13 := wd_upS hza hbb
  have HI13 : Hid _ := in_up HI10.out hb13
  have HD13 : Hid _ := in_up hda hbb
  generalize World.alloc w12 _ = w13 at hP hO13 HB13 hy13 hz13 HI13 HD13 ⊢
  obtain ⟨p0, p1, _, _⟩ := cells2 hO13
  obtain ⟨q0, q1, _, _⟩ := cells2 hP
  have hs1 := same_any w13 r0 ya za zs yc zc hy13 hz13 (by have h : zs.length ≤ 4096 := hbd.1; omega)
  have HBD : Hid _ := hbd.2
  have hee : (er == er) = true := beq_self_eq_true _
  clear hr11 hb12 hbb hP hb13 hO13 hy13 hz13 hza hda HO10 HB10 HY10 HI10 hbd HRR
  go_upto_region 8 with (first | (go_at_call 14; refine hs1.mono ?_; rintro e w14 ⟨rfl, hb14⟩))
  have hs2 := sameInts_any w14 ba da br bc dc (in_up HI13.out hb14) (in_up HD13.out hb14) (by have h : br.length ≤ 60000 := HBD.out; omega)
  have HB14 : Hid _ := bl_then HB13.out hb14
  clear hs1 hb14
  go_wp2_with (first | (go_at_call 15; refine hs2.mono ?_; rintro e w15 ⟨rfl, hb15⟩))
  go_ret
  exact ⟨rfl, bl_then HB14.out hb15⟩
end Go.Proofs.Ytndmkfmpdnoliaa
