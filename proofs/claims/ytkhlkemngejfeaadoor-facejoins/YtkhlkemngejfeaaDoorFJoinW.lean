/- THE WALK of FaceJoins. -/
import Derived.Test.YtkhlkemngejfeaaDoorFJoinM
namespace Go.Proofs.YtkhlkemngejfeaaDoor
open Go.ChangeShapes Go.WideShapes Go.ChangeAt Go.RowKit Go.Shelf

theorem row_on {S : Nat → Prop} {w w' : World} {a : Option Addr} {l : List Sg} (h : kSg.row w S a l) (hb : Below w.heap.size w w') : kSg.row w' S a l := kSg.row_mono (by decide) h fun _ hb' hlt => ⟨hb', hb.block _ hlt⟩

set_option maxRecDepth 100000 in
set_option maxHeartbeats 2000000 in
theorem faceJoins_walk {B : Nat} {S T : Nat → Prop} (w : World) (a b : Option Addr) (la lb : List Sg) (ca cb : Nat) (hra : kSg.row w S a la) (hrb : kSg.row w T b lb) (hg : Glob B w) :
    Calls Tryd.prog 8 #[.slice a la.length ca, .slice b lb.length cb] w fun e w' => e = .returned (.bool true) ∧ Below w.heap.size w w' := by
  have hw := awake_any w hg
  by_cases hlb : lightB la = true ∧ lightB lb = true
  · obtain ⟨hla, hlb⟩ := hlb
    obtain ⟨ha1, ha2⟩ := light_parts hla
    obtain ⟨hd1, hd2⟩ := light_parts hlb
    have hwa : wt la ≤ 52000 := by have := wt_light la ha2; omega
    have hwb : wt lb ≤ 52000 := by have := wt_light lb hd2; omega
    have hta := textR_len la
    have htb := textR_len lb
    by_cases hee : (textR la).2 = 0 ∧ (textR lb).2 = 0
    · obtain ⟨he1, he2⟩ := hee
      have hj := join_read he1 he2
      go_enter Tryd.func8, Tryd.ntmps8
      go_wp2_with (first | (go_at_call 10; refine hw.mono ?_; rintro e w1 ⟨rfl, hb1⟩; have hl1 := light_any w1 a la ca (row_on hra hb1); rw [hla] at hl1; refine Hid.out ?_))
      refine Lib.hid ?_
      go_wp2_with (first | (go_at_call 17; refine hl1.mono ?_; rintro e w2 ⟨rfl, hb2⟩; have hb12 := bl_then hb1 hb2; have hl2 := light_any w2 b lb cb (row_on hrb hb12); rw [hlb] at hl2; refine Hid.out ?_))
      refine Lib.hid ?_
      go_wp2_with (first | (go_at_call 17; refine hl2.mono ?_; rintro e w3 ⟨rfl, hb3⟩; have hb13 := bl_then hb12 hb3; have ht1 := text_any w3 a la ca (row_on hra hb13) (hg.below hb13) (by omega); refine Hid.out ?_))
      refine Lib.hid ?_
      go_wp2_with (first | (go_at_call 18; refine ht1.mono ?_; rintro e w4 ⟨rfl, hb4⟩; have hb14 := bl_then hb13 hb4; have ht2 := text_any w4 b lb cb (row_on hrb hb14) (hg.below hb14) (by omega); refine Hid.out ?_))
      refine Lib.hid ?_
      go_wp2_with (first | (go_at_call 18; refine ht2.mono ?_; rintro e w5 ⟨rfl, hb5⟩; have hb15 := bl_then hb14 hb5))
      have HB5 : Hid (Below w.heap.size w w5) := hb15
      have HJ : Hid (readR ((textR la).1 ++ (textR lb).1) = if both la lb then ([], 6) else (la ++ lb, 0)) := hj
      have hsl : ((textR la).1 ++ (textR lb).1).length ≤ 1000000 := by rw [List.length_append]; omega
      have hA : ∀ x ∈ la, x.ps.length ≤ 1000000 := fun x hx => by have := (ha2 x hx).2; omega
      have hAB : ∀ x ∈ la ++ lb, x.ps.length ≤ 1000000000 := fun x hx => by
        rcases List.mem_append.1 hx with h | h
        · have := (ha2 x h).2; omega
        · have := (hd2 x h).2; omega
      clear hj hta htb hw hl1 hl2 ht1 ht2 hb1 hb2 hb3 hb4 hb5 hb12 hb13 hb14 hb15 ha2 hwa hwb hla hlb he1 he2
      generalize (textR la).1 = sa at HJ hsl
      generalize (textR lb).1 = sb at HJ hsl
      go_loopw [12, 13] (fun t i wr => ∃ k : Nat, k ≤ lb.length ∧ i = .int .i64 k ∧ t = .bool (both la (lb.take k)) ∧ Below w.heap.size w wr) (fun _ i _ => lb.length - (intOf i).toNat)
      case atStart => exact ⟨0, Nat.zero_le _, rfl, rfl, HB5.out⟩
      case round =>
        obtain ⟨k, hk, rfl, rfl, hbr⟩ := hrel
        have HBR : Hid (Below w.heap.size w wr) := hbr
        by_cases hlt : k < lb.length
        · obtain ⟨b1, o1, pa, pc, rfl, hSb, hbb, h0, h1, h2, hpc, hrow⟩ := sg_at hrb k hlt
          have e0 := (hbr.cell (p := ⟨b1, o1 + k * 3, none⟩) hbb).trans h0
          have hf := find_any wr a la ca lb[k].name (row_on hra hbr) (by omega) hA
          have HT : Hid (both la (lb.take (k + 1)) = (both la (lb.take k) || (findR la lb[k].name).isSome)) := both_take la lb k hlt
          clear hrow h0 h1 h2 hbr
          generalize (findR la lb[k].name).isSome = q at HT hf
          rcases hbo : both la (lb.take k) with _ | _ <;> rw [hbo] at HT
          · go_wp2_with (go_at_call 15; refine hf.mono ?_; rintro e w6 ⟨⟨v, rfl, hsg⟩, hb6⟩; obtain ⟨xa, xc, rfl, hxc, hxr⟩ := hsg)
            go_roundw
            case rel => exact ⟨k + 1, by omega, by go_num, by rw [HT.out]; simp, bl_alloc (bl_then HBR.out hb6) _⟩
            case measure => simp [intOf]; omega
          · go_wp2_with (go_at_call 15; refine hf.mono ?_; rintro e w6 ⟨⟨v, rfl, hsg⟩, hb6⟩; obtain ⟨xa, xc, rfl, hxc, hxr⟩ := hsg)
            go_roundw
            case rel => exact ⟨k + 1, by omega, by go_num, by rw [HT.out]; simp, bl_alloc (bl_then HBR.out hb6) _⟩
            case measure => simp [intOf]; omega
        · have hkl : lb.take k = lb := List.take_of_length_le (by omega)
          rw [hkl]
          have hcat : bs sa ++ bs sb = bs (sa ++ sb) := bs_app sa sb
          have hcatz : (bs sa).size + (bs sb).size ≤ 9223372036854775807 := by rw [bs_size, bs_size]; rw [List.length_append] at hsl; omega
          have hrd := read_any wr (sa ++ sb) (hg.below HBR.out) hsl
          rw [HJ.out] at hrd
          clear hbr hkl
          rcases hbo : both la lb with _ | _ <;> rw [hbo] at hrd
          · have hrd : Calls Tryd.prog 20 #[.string (bs (sa ++ sb))] wr fun e w' => (∃ v, e = .returned (.tuple #[v, .int .i64 0]) ∧ kSg.rd w' (fun b => wr.heap.size ≤ b) v (la ++ lb)) ∧ Below wr.heap.size wr w' := hrd
            go_wp2_with (go_at_call 20; refine hrd.mono ?_; rintro e w6 ⟨⟨v, rfl, hr6⟩, hb6⟩; obtain ⟨ma, mc, rfl, hmr, hmc⟩ := hr6; refine Hid.out ?_)
            refine Lib.hid ?_
            have hbw6 := bl_then HBR.out hb6
            have hwz := hbw6.size
            have hra' : kSg.row w (fun b => b < w.heap.size) a la := kSg.row_mono (by decide) hra fun b _ hlt => ⟨hlt, rfl⟩
            have hrb' : kSg.row w (fun b => b < w.heap.size) b lb := kSg.row_mono (by decide) hrb fun b _ hlt => ⟨hlt, rfl⟩
            obtain ⟨csa, hlya, hsa⟩ := kSg.src (c := ca) (tx := 28) Tryd.underlying28 (row_on hra' (bl_alloc hbw6 (.cells #[] 33)))
            have hof := own_fresh w6 w6.heap.size 33 3 (Nat.le_refl _)
            have HMR : Hid (kSg.row w6 (fun b => wr.heap.size ≤ b) ma (la ++ lb)) := hmr
            have HLYA : Hid _ := hlya
            have HW6 : Hid (Below w.heap.size w w6) := hbw6
            clear hmr hlya hrd hb6 hbw6 hra'
            go_wp2_with (first | (at_builtin; refine wpList_append_src sg_info rfl Tryd.underlying28 (by decide) _ rfl _ _ rfl w6.heap.size (Value.slice (some ⟨w6.heap.size, 0, none⟩) 0 0) 0 [] rfl hof _ la.length csa rfl hsa (by omega) (by simp) ?_; intro y7 c7 w7 hown7 hgrow7 hat7; refine Hid.out ?_) | go_in)
            refine Lib.hid ?_
            have ho7 : w7.ownsRow w6.heap.size 33 3 (.slice y7 la.length c7) la.length csa := by simpa using hown7
            have hk7 : Below w6.heap.size w6 w7 := by
              refine Kept.to_below ((Kept.alloc w6 _ (fun k => w6.heap.size ≤ k)).trans ((Kept.of_grown hgrow7).mono fun i _ hi => ?_)) fun i hi => hi
              have : w6.heap.size = i := by simpa [Value.ownBlock] using hi
              omega
            have hz7 := hk7.size
            obtain ⟨csb, hlyb, hsb⟩ := kSg.src (c := cb) (tx := 28) Tryd.underlying28 (row_on hrb' (bl_then HW6.out hk7))
            have HLYB : Hid _ := hlyb
            have HK7 : Hid (Below w6.heap.size w6 w7) := hk7
            clear hown7 hgrow7 hat7 hsa hof hlyb hk7 hrb'
            go_wp2_with (first | (at_builtin; refine wpList_append_src sg_info rfl Tryd.underlying28 (by decide) _ rfl _ _ rfl w6.heap.size (Value.slice y7 la.length c7) la.length csa rfl ho7 _ lb.length csb rfl hsb (by omega) (by omega) ?_; intro y8 c8 w8 hown8 hgrow8 hat8; refine Hid.out ?_) | go_in)
            refine Lib.hid ?_
            have hk8 : Below w6.heap.size w6 w8 := by
              refine Kept.to_below ((Below.kept HK7.out (fun k => w6.heap.size ≤ k)).trans ((Kept.of_grown hgrow8).mono fun i _ hi => (ho7.lt i hi).1)) fun i hi => hi
            have hlay : kSg.lay w8 (fun _ => True) (csa ++ csb) (la ++ lb) := by
              refine kSg.lay_append (kSg.lay_mono HLYB.out fun i hi hlt => ⟨trivial, ?_⟩) (kSg.lay_mono HLYA.out fun i hi hlt => ⟨trivial, ?_⟩)
              · rw [hk8.block i (by omega), HK7.out.block i (by omega)]
              · rw [hk8.block i (by omega), heap_alloc_old w6 _ (by omega)]
            have hrd8 := kSg.own_rd (T := fun _ => True) (t := 33) (base := w6.heap.size) (v := .slice y8 (la.length + lb.length) c8) (l := la ++ lb) (w := w8) ⟨csa ++ csb, by rw [List.length_append]; exact hown8, hlay⟩ (fun _ _ => trivial) (fun _ _ => trivial)
            obtain ⟨qa, qc, hqe, hqr, _⟩ := hrd8
            have hqe' : qa = y8 ∧ qc = c8 := by injection hqe with h1 h2 h3; exact ⟨h1.symm, h3.symm⟩
            obtain ⟨rfl, rfl⟩ := hqe'
            clear hqe
            have hsm := same_refl w8 ma qa (la ++ lb) mc qc (row_on HMR.out hk8) hqr (by rw [List.length_append]; omega) hAB
            rw [List.length_append] at hsm
            have HB8 : Hid (Below w.heap.size w w8) := bl_then HW6.out hk8
            clear hown8 hgrow8 hat8 hqr hlay hk8 ho7 hsb
            go_wp2_with (go_at_call 14; go_fit hsm; rintro e w9 ⟨rfl, hb9⟩)
            go_ret
            exact ⟨rfl, bl_then HB8.out hb9⟩
          · have hrd : Calls Tryd.prog 20 #[.string (bs (sa ++ sb))] wr fun e w' => (∃ v, e = .returned (.tuple #[v, .int .i64 6]) ∧ kSg.rd w' (fun b => wr.heap.size ≤ b) v []) ∧ Below wr.heap.size wr w' := hrd
            go_wp2_with (go_at_call 20; refine hrd.mono ?_; rintro e w6 ⟨⟨v, rfl, hr6⟩, hb6⟩; obtain ⟨ma, mc, rfl, hmr, hmc⟩ := hr6)
            go_ret
            exact ⟨rfl, bl_then HBR.out hb6⟩
    · have hne : ((textR la).2 == 0) = false ∨ ((textR la).2 = 0 ∧ ((textR lb).2 == 0) = false) := by
        by_cases h1 : (textR la).2 = 0
        · right; exact ⟨h1, by simpa using fun h => hee ⟨h1, h⟩⟩
        · left; simpa using h1
      clear hee
      rcases hne with hne | ⟨hne0, hne⟩
      all_goals
        go_enter Tryd.func8, Tryd.ntmps8
        go_wp2_with (first | (go_at_call 10; refine hw.mono ?_; rintro e w1 ⟨rfl, hb1⟩; have hl1 := light_any w1 a la ca (row_on hra hb1); rw [hla] at hl1; refine Hid.out ?_))
        refine Lib.hid ?_
        go_wp2_with (first | (go_at_call 17; refine hl1.mono ?_; rintro e w2 ⟨rfl, hb2⟩; have hb12 := bl_then hb1 hb2; have hl2 := light_any w2 b lb cb (row_on hrb hb12); rw [hlb] at hl2; refine Hid.out ?_))
        refine Lib.hid ?_
        go_wp2_with (first | (go_at_call 17; refine hl2.mono ?_; rintro e w3 ⟨rfl, hb3⟩; have hb13 := bl_then hb12 hb3; have ht1 := text_any w3 a la ca (row_on hra hb13) (hg.below hb13) (by omega); refine Hid.out ?_))
        refine Lib.hid ?_
        go_wp2_with (first | (go_at_call 18; refine ht1.mono ?_; rintro e w4 ⟨rfl, hb4⟩; have hb14 := bl_then hb13 hb4; have ht2 := text_any w4 b lb cb (row_on hrb hb14) (hg.below hb14) (by omega); refine Hid.out ?_))
        refine Lib.hid ?_
        go_wp2_with (first | (go_at_call 18; refine ht2.mono ?_; rintro e w5 ⟨rfl, hb5⟩; have hb15 := bl_then hb14 hb5))
        go_ret
        exact ⟨rfl, hb15⟩
  · have hll : lightB la = false ∨ (lightB la = true ∧ lightB lb = false) := by
      rcases h1 : lightB la with _ | _
      · exact .inl rfl
      · exact .inr ⟨rfl, by rcases h2 : lightB lb with _ | _
                            · rfl
                            · exact absurd ⟨h1, h2⟩ hlb⟩
    clear hlb
    rcases hll with hla | ⟨hla, hlb⟩
    · rcases hlb : lightB lb with _ | _
      all_goals
        go_enter Tryd.func8, Tryd.ntmps8
        go_wp2_with (first | (go_at_call 10; refine hw.mono ?_; rintro e w1 ⟨rfl, hb1⟩; have hl1 := light_any w1 a la ca (row_on hra hb1); rw [hla] at hl1; refine Hid.out ?_))
        refine Lib.hid ?_
        go_wp2_with (first | (go_at_call 17; refine hl1.mono ?_; rintro e w2 ⟨rfl, hb2⟩; have hb12 := bl_then hb1 hb2; have hl2 := light_any w2 b lb cb (row_on hrb hb12); rw [hlb] at hl2; refine Hid.out ?_))
        refine Lib.hid ?_
        go_wp2_with (first | (go_at_call 17; refine hl2.mono ?_; rintro e w3 ⟨rfl, hb3⟩; have hb13 := bl_then hb12 hb3))
        go_ret
        exact ⟨rfl, hb13⟩
    · go_enter Tryd.func8, Tryd.ntmps8
      go_wp2_with (first | (go_at_call 10; refine hw.mono ?_; rintro e w1 ⟨rfl, hb1⟩; have hl1 := light_any w1 a la ca (row_on hra hb1); rw [hla] at hl1; refine Hid.out ?_))
      refine Lib.hid ?_
      go_wp2_with (first | (go_at_call 17; refine hl1.mono ?_; rintro e w2 ⟨rfl, hb2⟩; have hb12 := bl_then hb1 hb2; have hl2 := light_any w2 b lb cb (row_on hrb hb12); rw [hlb] at hl2; refine Hid.out ?_))
      refine Lib.hid ?_
      go_wp2_with (first | (go_at_call 17; refine hl2.mono ?_; rintro e w3 ⟨rfl, hb3⟩; have hb13 := bl_then hb12 hb3))
      go_ret
      exact ⟨rfl, hb13⟩
end Go.Proofs.YtkhlkemngejfeaaDoor
