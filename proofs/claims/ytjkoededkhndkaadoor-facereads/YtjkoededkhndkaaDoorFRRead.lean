/- CONTRACT of the reference's Read. -/
import Derived.Test.YtjkoededkhndkaaDoorFRNum
import Derived.Deep.RegionHeld3
import Derived.Deep.RegionLaw
namespace Go.Proofs.YtjkoededkhndkaaDoor
open Go.ChangeShapes Go.WideShapes Go.ChangeAt Go.RowKit

theorem str_at {w : World} {S : Nat → Prop} {a : Option Addr} {l : List (List UInt8)} (h : kStr.row w S a l) (k : Nat) (hk : k < l.length) :
    ∃ b o, a = some ⟨b, o, none⟩ ∧ S b ∧ b < w.heap.size ∧ w.cell? ⟨b, o + k, none⟩ = some (strV l[k]) := by
  obtain ⟨b, o, cs, rfl, hS, hc, rfl⟩ := kStr.row_at h k l[k] (List.getElem?_eq_getElem hk)
  have h0 := hc 0 _ rfl
  rw [show o + k * kStr.n + 0 = o + k by show o + k * 1 + 0 = o + k; omega] at h0
  exact ⟨b, o, rfl, hS, World.block_lt_of_cell? w _ h0, h0⟩
theorem str_up {w w' : World} {S : Nat → Prop} {a : Option Addr} {l : List (List UInt8)} (h : kStr.row w S a l) (hb : Below w.heap.size w w') : kStr.row w' (fun _ => True) a l := kStr.row_mono (by decide) h fun b _ hlt => ⟨trivial, hb.block b hlt⟩
theorem cutL_mem (b : UInt8) : ∀ (l p : List UInt8), p ∈ cutL b l → p.length ≤ l.length
  | [], p, h => by simp [cutL] at h; simp [h]
  | c :: l, p, h => by
    have ih := cutL_mem b l
    rw [cutL] at h
    split at h
    · rcases List.mem_cons.1 h with rfl | h
      · simp
      · have := ih p h; simp; omega
    · rcases List.mem_cons.1 h with rfl | h
      · have hm : (cutL b l).headD [] ∈ cutL b l := by
          have hn := cutL_ne b l
          cases hc : cutL b l with
          | nil => exact absurd hc hn
          | cons x r => simp
        have := ih _ hm
        simp only [List.length_cons]; omega
      · have := ih p (List.mem_of_mem_tail h); simp; omega
theorem drewF (w : World) : Below w.heap.size w w.drew := ⟨rfl, rfl, rfl, Nat.le_refl _, fun _ _ => rfl⟩
theorem rAll_none : ∀ (ls : List (List UInt8)) (k : Nat) (hk : k < ls.length), (cutL 32 ls[k]).length < 3 → rAll ls = none
  | s :: l, 0, _, h => by rw [rAll]; exact if_pos h
  | s :: l, k + 1, hk, h => by
    rw [rAll]
    split
    · rfl
    · rw [rAll_none l k (by simpa using hk) (by simpa using h)]; rfl
theorem rAll_some : ∀ (ls : List (List UInt8)), (∀ p ∈ ls, ¬ (cutL 32 p).length < 3) → rAll ls = some (ls.map fun p => rSg (cutL 32 p))
  | [], _ => rfl
  | s :: l, h => by
    rw [rAll, if_neg (h s (by simp)), rAll_some l fun p hp => h p (List.mem_cons_of_mem _ hp)]
    rfl
/-- How long pieces are together. -/
def sumL : List (List UInt8) → Nat
  | [] => 0
  | p :: l => p.length + 1 + sumL l
theorem sum_cut (b : UInt8) : ∀ (l : List UInt8), sumL (cutL b l) ≤ l.length + 1
  | [] => by simp [cutL, sumL]
  | c :: l => by
    have ih := sum_cut b l
    rw [cutL]
    split
    · simp only [sumL, List.length_nil, List.length_cons]; omega
    · have hn := cutL_ne b l
      cases hc : cutL b l with
      | nil => exact absurd hc hn
      | cons x r =>
        rw [hc] at ih
        simp only [sumL] at ih
        simp only [List.headD_cons, List.tail_cons, sumL, List.length_cons]
        omega
theorem sum_drop : ∀ (l : List (List UInt8)), sumL l.dropLast ≤ sumL l
  | [] => Nat.le_refl _
  | [p] => by simp [sumL]
  | p :: q :: l => by
    have := sum_drop (q :: l)
    rw [List.dropLast_cons_of_ne_nil (by simp)]
    simp only [sumL] at this ⊢
    omega
theorem wt_lines : ∀ (l : List (List UInt8)), wt (l.map fun q => rSg (cutL 32 q)) ≤ 61 * sumL l
  | [] => Nat.zero_le _
  | q :: l => by
    have ih := wt_lines l
    have h1 : ((cutL 32 q).headD []).length ≤ q.length := by
      have hn := cutL_ne 32 q
      cases hc : cutL 32 q with
      | nil => exact absurd hc hn
      | cons x r => exact cutL_mem 32 q x (by rw [hc]; simp)
    simp only [List.map_cons, wt, sumL]
    have h2 : (rSg (cutL 32 q)).name = (cutL 32 q).headD [] := rfl
    rw [h2]
    omega
set_option maxRecDepth 100000 in
set_option maxHeartbeats 40000000 in
theorem refRead_any (s : List UInt8) (w : World) (hs : s.length ≤ 3000) :
    Calls Tryd.prog 6 #[.string (bs s)] w fun e w' => (∃ v, e = .returned (.tuple #[v, .int .i64 (refR s).2]) ∧ kSg.rd w' (fun _ => True) v (refR s).1) ∧ Below w.heap.size w w' := by
  have hcl := rcut_any s 10 w (by omega)
  have hll := cutL_len 10 s
  have hln := cutL_ne 10 s
  obtain ⟨L, hL⟩ : ∃ L, cutL 10 s = L := ⟨_, rfl⟩
  have HLD : Hid (L = cutL 10 s) := hL.symm
  rw [hL] at hcl hll hln
  clear hL
  have hl1 : 1 ≤ L.length := by cases L with | nil => exact absurd rfl hln | cons => simp
  go_enter Tryd.func6, Tryd.ntmps6
  go_upto_region 4 with (first | (go_at_call 11; refine Calls.mono hcl ?_; rintro e w2 ⟨⟨v2, rfl, a2, c2, rfl, hr2, hc2⟩, hb2⟩))
  have HR2 : Hid _ := hr2
  have HB2 : Hid _ := hb2
  clear hcl hr2 hb2 hln
  go_loopw [5, 6] (fun v i wr => ∃ k : Nat, k + 1 ≤ L.length ∧ i = .int .i64 k ∧ (∀ q ∈ L.take k, ¬ (cutL 32 q).length < 3) ∧ kSg.own 33 wr (Own w2.heap.size v) w2.heap.size v ((L.take k).map fun q => rSg (cutL 32 q)) ∧ Below w2.heap.size w2 wr) (fun _ i _ => L.length - (intOf i).toNat)
  case atStart => exact ⟨0, hl1, rfl, (fun q hq => by simp at hq), kSg.own_none _ _ _ _, Below.refl _ _⟩
  case round =>
    obtain ⟨wo, hwO⟩ : ∃ wo, wo = wr := ⟨wr, rfl⟩
    subst hwO
    obtain ⟨k, hk, rfl, hq, hown, hbl⟩ := hrel
    obtain ⟨vx, vc, hv⟩ := kSg.own_form hown
    have htk : ((L.take k).map fun q => rSg (cutL 32 q)).length = k := by rw [List.length_map, List.length_take]; omega
    rw [htk] at hv
    subst hv
    have HO : Hid _ := hown
    have HB : Hid _ := hbl
    have HQ : Hid _ := hq
    by_cases hlt : k + 1 < L.length
    · have hk0 : (0 : Int) ≤ (k : Int) := by omega
      have hk1 : (k : Int) < (L.length : Int) := by omega
      have hk2 : (k : Int) < (L.length : Int) - 1 := by omega
      obtain ⟨b2, o2, rfl, _, hb2, hc⟩ := str_at HR2.out k (by omega)
      have e0 := (hbl.cell (p := ⟨b2, o2 + k, none⟩) hb2).trans hc
      have hkL : k < L.length := by omega
      have hLk : L[k].length ≤ 3000 := by
        have h1 := List.getElem_mem hkL
        have h2 : L[k] ∈ cutL 10 s := by rw [← HLD.out]; exact h1
        have := cutL_mem 10 s _ h2; omega
      have hrc := rcut_any L[k] 32 wo (by omega)
      clear hq hown hbl hc
      go_upto_region 7 with (first | (go_at_call 11; refine Calls.mono hrc ?_; rintro e w3 ⟨⟨v3, rfl, a3, c3, rfl, hr3, hc3⟩, hb3⟩))
      have HR3 : Hid _ := hr3
      have HB3 : Hid _ := hb3
      obtain ⟨P, hP⟩ : ∃ P, cutL 32 L[k] = P := ⟨_, rfl⟩
      rw [hP] at HR3 hc3 ⊢
      have HP : Hid _ := hP
      have hPm : ∀ p ∈ P, p.length ≤ 3000 := fun p hp => by have := cutL_mem 32 L[k] p (by rw [HP.out]; exact hp); omega
      have hPl : P.length ≤ 3001 := by have := cutL_len 32 L[k]; rw [HP.out] at this; omega
      clear hrc hr3 hb3 hP
      by_cases hP3 : P.length < 3
      · have HE : Hid (refR s = ([], 6)) := by
          show _ = _
          unfold refR
          rw [← HLD.out, rAll_none L.dropLast k (by simp; omega) (by rw [List.getElem_dropLast, HP.out]; exact hP3)]
        have hP3' : (P.length : Int) < 3 := by omega
        go_wp2_with fail
        go_ret2
        exact ⟨⟨_, by rw [HE.out]; rfl, by rw [HE.out]; exact ⟨none, 0, rfl, trivial, Nat.le_refl _⟩⟩, bl_then HB2.out (bl_then HB.out HB3.out)⟩
      · have hP3' : ¬ (P.length : Int) < 3 := by omega
        have hpl0 : 0 < P.length := by omega
        have hpl1 : P.length - 1 < P.length := by omega
        obtain ⟨b4, o4, rfl, _, hb4, hc4⟩ := str_at HR3.out 0 hpl0
        obtain ⟨b5, o5, eb, _, _, hc5⟩ := str_at HR3.out (P.length - 1) hpl1
        have hbo : b4 = b5 ∧ o4 = o5 := by injection eb with eb; injection eb with q1 q2; exact ⟨q1, q2⟩
        obtain ⟨rfl, rfl⟩ := hbo
        have hi0 : (0 : Int) < (P.length : Int) := by omega
        have hi8 : (1 : Int) ≤ (P.length : Int) := by omega
        have hi2 : (0 : Int) ≤ (P.length : Int) - 1 := by omega
        have hi3 : (P.length : Int) - 1 < (P.length : Int) := by omega
        have hi4 : ((P.length : Int) - 1).toNat = P.length - 1 := by omega
        have hi5 : IntKind.i64.wrap ((P.length : Int) - 1) = (P.length : Int) - 1 := by unfold IntKind.wrap; simp [IntKind.signed, IntKind.bits]; omega
        have hc4' : w3.cell? ⟨b4, o4, none⟩ = some (strV P[0]) := hc4
        clear hc4 eb e0
        go_upto_region 9 with fail
        go_region_law (fail)
        all_goals
          first
            | (have hbx := heap_alloc_new w3 (.cells #[strV P[0], .slice none 0 0, .bool ((bs P[P.length - 1]).toList == [115, 101, 99])] 33)
               have hB5 : Below w3.heap.size w3 (w3.alloc (.cells #[strV P[0], .slice none 0 0, .bool ((bs P[P.length - 1]).toList == [115, 101, 99])] 33)).drew := bl_then (bl_alloc (Below.refl _ _) _) (drewF _)
               have hbx5 : (w3.alloc (.cells #[strV P[0], .slice none 0 0, .bool ((bs P[P.length - 1]).toList == [115, 101, 99])] 33)).drew.heap[w3.heap.size]? = some (.cells #[strV P[0], .slice none 0 0, .bool ((bs P[P.length - 1]).toList == [115, 101, 99])] 33) := hbx
               generalize World.drew (World.alloc w3 _) = w5 at hB5 hbx5 ⊢)
        all_goals
          have HB5 : Hid _ := hB5
          have HX5 : Hid _ := hbx5
          have HR5 : Hid _ := str_up HR3.out hB5
          obtain ⟨sc, hsc⟩ : ∃ sc, ((bs P[P.length - 1]).toList == [115, 101, 99]) = sc := ⟨_, rfl⟩
          rw [hsc] at HX5 ⊢
          have HSC : Hid _ := hsc
          obtain ⟨nm, hnm⟩ : ∃ nm, P[0] = nm := ⟨_, rfl⟩
          rw [hnm] at HX5 ⊢
          have HNM : Hid _ := hnm
          obtain ⟨X, hX⟩ : ∃ X, w3.heap.size = X := ⟨_, rfl⟩
          rw [hX] at HX5 ⊢
          clear hbx hbx5 hB5 hc4' hc5 hi0 hi2 hi3 hi4 hi5 hi8 hsc hnm
          go_upto_region 11 with fail
          have hPi : (P.length : Int) ≤ 3001 := by omega
          go_loopw [9] (fun kk wy => ∃ (j : Nat) (pv : Value), j + 3 ≤ P.length ∧ kk = .int .i64 ((j : Int) + 1) ∧ wy.heap[X]? = some (.cells #[strV nm, pv, .bool sc] 33) ∧ kTy.own 30 wy (fun _ => True) (X + 1) pv (((P.drop 1).take j).map rTy) ∧ Below w3.heap.size w3 wy) (fun kk _ => P.length - (intOf kk).toNat)
          case atStart => exact ⟨0, .slice none 0 0, by omega, rfl, HX5.out, kTy.own_none _ _ _ _, HB5.out⟩
          case round =>
            obtain ⟨j, pv, hj, rfl, hsb, hpo, hbw⟩ := hrel
            obtain ⟨px, pc, hpv⟩ := kTy.own_form hpo
            have htj : (((P.drop 1).take j).map rTy).length = j := by rw [List.length_map, List.length_take, List.length_drop]; omega
            rw [htj] at hpv
            subst hpv
            have HBW : Hid _ := hbw
            have hzs : X < wr.heap.size := lt_of_some hsb
            by_cases hjl : j + 3 < P.length
            · have hj1 : (j : Int) + 1 < (P.length : Int) - 2 := by omega
              have hj2 : (0 : Int) ≤ (j : Int) + 1 := by omega
              have hj3 : (j : Int) + 1 < (P.length : Int) := by omega
              have hj4 : ((j : Int) + 1).toNat = j + 1 := by omega
              have hjp : j + 1 < P.length := by omega
              obtain ⟨b6, o6, eb, _, hb6, hc6⟩ := str_at HR3.out (j + 1) hjp
              have hbo : b4 = b6 ∧ o4 = o6 := by injection eb with eb; injection eb with q1 q2; exact ⟨q1, q2⟩
              obtain ⟨rfl, rfl⟩ := hbo
              have e6 := (hbw.cell (p := ⟨b4, o4 + (j + 1), none⟩) hb6).trans hc6
              have HNX : Hid (((P.drop 1).take (j + 1)).map rTy = ((P.drop 1).take j).map rTy ++ [rTy P[j + 1]]) := by
                show _ = _
                rw [List.take_succ_eq_append_getElem (by rw [List.length_drop]; omega), List.map_append, List.getElem_drop]
                simp [Nat.add_comm]
              have hpm := hPm P[j + 1] (List.getElem_mem hjp)
              generalize P[j + 1] = q at e6 HNX hpm
              generalize ((P.drop 1).take j).map rTy = A at hpo htj HNX
              obtain ⟨ps, hop, hlp⟩ := hpo
              rw [htj] at hop
              have hpl : ∀ g, (Value.slice px j pc).ownBlock = some g → X + 1 ≤ g ∧ g < wr.heap.size := fun g hg => World.ownsRow.lt hop g hg
              obtain ⟨d0, d1, d2, g0, g1, g2⟩ := cells3 hsb
              have hct := rtyp_any q wr.drew (by omega)
              clear hc6 eb
              go_upto_region 13 with fail
              have HHS : ∀ u : World, Below wr.drew.heap.size wr.drew u → u.heap[X]? = some (.cells #[strV nm, .slice px j pc, .bool sc] 33) := fun u hu => by
                rw [hu.block _ (by show _ < wr.heap.size; omega)]; exact hsb
              have HHO : ∀ (u : World) (o : Obj), Below wr.drew.heap.size wr.drew u → (u.alloc o).ownsRow (X + 1) 30 2 (.slice px j pc) j ps := fun u o hu =>
                own_kept (own_kept hop (Below.to_kept (Kept.refl (fun _ => False) wr).drew hu) (fun _ _ h => h)) (Kept.alloc _ o (fun _ => False)) (fun _ _ h => h)
              have HHE : ∀ u : World, Below wr.drew.heap.size wr.drew u → u.cell? ⟨b4, o4 + (j + 1), none⟩ = some (strV q) := fun u hu => (World.cell?_of_block (hu.block b4 (by show _ < wr.heap.size; exact World.block_lt_of_cell? wr _ e6))).trans e6
              have hpn : ¬ (Value.slice px j pc).ownBlock = some X := fun e => by have := (hpl _ e).1; omega
              go_region_law ((first
                | (refine step_call rfl 12 _ _ rfl #[strV q] (by simp [go_sem, Act.eval]) ?_; refine hct.mono ?_; rintro e w4 ⟨rfl, hb4⟩; have hs4 := HHS w4 hb4; have ho4 := fun o => HHO w4 o hb4; have hz4 : wr.heap.size ≤ w4.heap.size := hb4.size; have hl4 : X < w4.heap.size := (by omega); obtain ⟨x0, x1, x2, t0, t1, t2⟩ := cells3 hs4)
                | (refine step_append_src ty_info rfl Tryd.underlying31 (by decide) (by rfl) _ _ (by rfl) (X + 1) (.slice px j pc) j ps (by rfl) (ho4 _) (.slice (some ⟨w4.heap.size, 0, none⟩) 1 1) 1 [.bool (rTy q).sec, .int .i64 (rTy q).len] (by rfl) (src_blk _ _ _ Tryd.underlying31 _ 2 _ (by simp) rfl (by simp [Value.oneCell'])) (by omega) (by simp; omega) ?_; intro y5 c5 w7 hown5 hgrow5 hat5; have hs5 : w7.heap[X]? = some (.cells #[strV nm, .slice px j pc, .bool sc] 33) := (by rw [hgrow5.block _ (by simp; omega) (fun e => hpn e.symm), heap_alloc_old _ _ (by omega)]; exact hs4); obtain ⟨r0, r1, r2, q0, q1, q2⟩ := cells3 hs5)))
              all_goals go_wp2_with fail
              all_goals
                go_roundw
                case measure => simp [intOf]; omega
                case rel =>
                  refine ⟨j + 1, .slice y5 (j + 1) c5, by omega, by go_num, set_over hs5, ?_, ?_⟩
                  · rw [HNX.out]
                    refine ⟨ps ++ [.bool (rTy q).sec, .int .i64 (rTy q).len], ?_, ty_lay (kTy.lay_snoc (w := wr) (S := fun _ => True) rfl (ty_lay hlp))⟩
                    rw [show (A ++ [rTy q]).length = j + 1 by simp [htj]]
                    exact own_kept hown5 (Kept.set w7 X 1 _) (fun g hg e => by have := (World.ownsRow.lt hown5 g hg).1; omega)
                  · refine Kept.to_below (M := fun i => w3.heap.size ≤ i) ((((Below.kept (bl_then (bl_then HBW.out (drewF wr)) hb4) _).alloc_r _).trans ((Kept.of_grown hgrow5).mono fun i _ hi => ?_)).trans ((Kept.set w7 X 1 _).mono fun i _ hi => ?_)) (fun _ h => h)
                    · have := (hpl i hi).1; omega
                    · omega
            · have hje : j = P.length - 3 := by omega
              have hj1 : ¬ (j : Int) + 1 < (P.length : Int) - 2 := by omega
              obtain ⟨d0, d1, d2, g0, g1, g2⟩ := cells3 hsb
              obtain ⟨A, hA⟩ : ∃ A, ((P.drop 1).take j).map rTy = A := ⟨_, rfl⟩
              rw [hA] at hpo htj
              have HSG : Hid (rSg (cutL 32 L[k]) = ⟨nm, A, sc⟩) := by
                show _ = _
                rw [HP.out]
                unfold rSg
                rw [← hje, hA, ← HNM.out, ← HSC.out]
                congr 1
                · cases P with
                  | nil => simp at hpl0
                  | cons x r => rfl
                · rw [bs_tl, Bool.eq_iff_iff, List.getLastD_eq_getLast?, List.getLast?_eq_getElem?, List.getElem?_eq_getElem hpl1]
                  simp
              have HTK : Hid ((L.take (k + 1)).map (fun q => rSg (cutL 32 q)) = (L.take k).map (fun q => rSg (cutL 32 q)) ++ [⟨nm, A, sc⟩]) := by
                show _ = _
                rw [List.take_succ_eq_append_getElem hkL, List.map_append, List.map_cons, List.map_nil, HSG.out]
              have HQN : Hid (∀ q ∈ L.take (k + 1), ¬ (cutL 32 q).length < 3) := fun q hq => by
                rw [List.take_succ_eq_append_getElem hkL] at hq
                rcases List.mem_append.1 hq with h | h
                · exact HQ.out q h
                · rw [List.mem_singleton.1 h, HP.out]; exact hP3
              obtain ⟨xs, hox, hlx⟩ := HO.out
              rw [htk] at hox
              have hvl : ∀ g, (Value.slice vx k vc).ownBlock = some g → w2.heap.size ≤ g ∧ g < wo.heap.size := fun g hg => World.ownsRow.lt hox g hg
              have hbww : Below wo.heap.size wo wr := bl_then HB3.out hbw
              have hox3 : ∀ o, (wr.alloc o).ownsRow w2.heap.size 33 3 (.slice vx k vc) k xs := fun o => own_kept (own_kept hox (Below.kept hbww (fun _ => False)) (fun _ _ h => h)) (Kept.alloc _ o (fun _ => False)) (fun _ _ h => h)
              have hws : w2.heap.size ≤ wr.heap.size := Nat.le_trans HB.out.size hbww.size
              have hLi : L.length ≤ 3001 := by omega
              have HPO : Hid _ := hpo
              have HLX : Hid _ := hlx
              have HVL : Hid _ := hvl
              have HWW : Hid _ := hbww
              have HJE : Hid _ := hje
              clear hpo hlx hox hvl hbww hA hjl HX5 HB5 hje
              go_upto_region 14 with fail
              go_upto_region 5 with (first | (at_builtin; refine wpList_append_src sg_info rfl Tryd.underlying23 (by decide) _ rfl _ _ rfl w2.heap.size (.slice vx k vc) k xs rfl (hox3 _) (.slice (some ⟨wr.heap.size, 0, none⟩) 1 1) 1 [strV nm, .slice px j pc, .bool sc] rfl (src_blk _ _ _ Tryd.underlying23 _ 3 _ rfl rfl (by simp [Value.oneCell'])) (by omega) (by simp; omega) ?_; intro y8 c8 w8 hown8 hgrow8 hat8))
              obtain ⟨qa, qc, hqe, hqr, hqc⟩ := kTy.own_rd (T := fun b => X + 1 ≤ b ∧ b < wr.heap.size) (S := fun b => X + 1 ≤ b ∧ b < wr.heap.size) (by
                obtain ⟨ps, h1, h2⟩ := HPO.out
                exact ⟨ps, h1, ty_lay h2⟩) (fun _ h => h) (fun g hg => kTy.own_lt HPO.out g hg)
              rw [htj] at hqe
              injection hqe with q1 q2 q3
              subst q1
              subst q3
              have hwoX : wo.heap.size ≤ X := by have := HB3.out.size; omega
              have hw2o := HB.out.size
              have hCC : kSg.C wr (Own w2.heap.size (.slice vx k vc)) [strV nm, .slice px j pc, .bool sc] ⟨nm, A, sc⟩ := by
                refine ⟨px, pc, by show _ = [_, Value.slice px A.length pc, _]; rw [htj], hqc, kTy.row_mono (by decide) hqr fun b hb hlt => ⟨⟨by omega, fun e => ?_⟩, rfl⟩⟩
                have := (HVL.out b e).2; omega
              have hLL : kSg.lay wr (Own w2.heap.size (.slice vx k vc)) xs ((L.take k).map fun q => rSg (cutL 32 q)) := kSg.lay_mono HLX.out fun b hb hlt => ⟨hb, HWW.out.block b hlt⟩
              have hN := kSg.own_append hLL hCC (fun i hi => heap_alloc_old wr _ hi) (by simp) hown8 (by rw [htk]) hgrow8 (fun b e => by
                  rcases hat8 with h | h
                  · exact .inl (h.symm.trans e)
                  · exact .inr (by have := Option.some.inj (h.symm.trans e); omega))
              rw [← HTK.out] at hN
              have HN : Hid _ := hN
              have HB8 : Hid (Below w2.heap.size w2 w8) := by
                refine Kept.to_below (M := fun i => w2.heap.size ≤ i) (((Below.kept (bl_then HB.out HWW.out) _).alloc_r (.cells #[strV nm, .slice px j pc, .bool sc] 33)).trans ((Kept.of_grown hgrow8).mono fun i _ hi => ?_)) (fun _ h => h)
                exact (HVL.out i hi).1
              clear hN hown8 hgrow8 hat8 hLL hCC hqr hox3 d0 d1 d2 g0 g1 g2
              go_wp2_with fail
              go_roundw
              case measure => simp [intOf]; omega
              case rel => exact ⟨k + 1, by omega, by go_num, HQN.out, HN.out, HB8.out⟩
    · have hke : L.take k = L.dropLast := by rw [List.dropLast_eq_take, show k = L.length - 1 by omega]
      rw [hke] at hown hq htk
      obtain ⟨OUT, hOUT⟩ : ∃ OUT, (L.dropLast.map fun q => rSg (cutL 32 q)) = OUT := ⟨_, rfl⟩
      rw [hOUT] at hown htk
      have HRR : Hid (refR s = if textR OUT = (s, 0) then (OUT, 0) else ([], 6)) := by
        show _ = _
        unfold refR
        rw [← HLD.out, rAll_some _ hq, hOUT]
      have hwt : wt OUT ≤ 300000 := by
        rw [← hOUT]
        have h1 := wt_lines L.dropLast
        have h2 := sum_cut 10 s
        rw [← HLD.out] at h2
        have h3 := sum_drop L
        omega
      have hps : ∀ x ∈ OUT, x.ps.length ≤ 1000000 := fun x hx => by
        rw [← hOUT] at hx
        obtain ⟨q, hq1, rfl⟩ := List.mem_map.1 hx
        have hq2 : q ∈ cutL 10 s := by rw [← HLD.out]; exact (List.dropLast_sublist L).subset hq1
        have h3 := cutL_mem 10 s q hq2
        have h4 := cutL_len 32 q
        show (((cutL 32 q).drop 1).take _ |>.map rTy).length ≤ _
        simp only [List.length_map, List.length_take, List.length_drop]
        omega
      obtain ⟨ao, co, eo, hro, hco⟩ := kSg.own_rd (T := fun _ => True) hown (fun _ _ => trivial) (fun _ _ => trivial)
      rw [htk] at eo
      injection eo with q1 q2 q3
      subst q1
      subst q3
      have htx := refText_any wo vx OUT vc hro hwt hps
      rw [htk] at htx
      have HRO : Hid _ := hro
      have hkk : ¬ (k : Int) < (L.length : Int) - 1 := by omega
      clear hq hown hbl hke hro
      have HBO : Hid _ := bl_then HB2.out HB.out
      by_cases hz : (textR OUT).2 = 0
      · by_cases hs1 : (textR OUT).1 = s
        · have HE : Hid (refR s = (OUT, 0)) := by show _ = _; rw [HRR.out, if_pos (Prod.ext hs1 hz)]
          rw [hz, hs1] at htx
          have hss : ((bs s).toList == (bs s).toList) = true := beq_self_eq_true _
          go_wp2_with (first | (go_at_call 13; refine Calls.mono htx ?_; rintro e w9 ⟨rfl, hb9⟩))
          go_ret2
          exact ⟨⟨_, by rw [HE.out]; rfl, by rw [HE.out]; exact ⟨vx, vc, by rw [htk]; rfl, kSg.row_mono (by decide) HRO.out fun b _ hlt => ⟨trivial, hb9.block b hlt⟩, hco⟩⟩, bl_then HBO.out hb9⟩
        · have HE : Hid (refR s = ([], 6)) := by show _ = _; rw [HRR.out, if_neg fun h => hs1 (Prod.mk.inj h).1]
          have hss : ((bs (textR OUT).1).toList == (bs s).toList) = false := by rw [bs_tl, bs_tl]; simpa using hs1
          have hss2 : ¬ (bs (textR OUT).1).toList = (bs s).toList := by rw [bs_tl, bs_tl]; exact hs1
          rw [hz] at htx
          generalize (textR OUT).1 = tx at htx hss hss2
          go_wp2_with (first | (go_at_call 13; refine Calls.mono htx ?_; rintro e w9 ⟨rfl, hb9⟩))
          go_ret2
          exact ⟨⟨_, by rw [HE.out]; rfl, by rw [HE.out]; exact ⟨none, 0, rfl, trivial, Nat.le_refl _⟩⟩, bl_then HBO.out hb9⟩
      · have HE : Hid (refR s = ([], 6)) := by show _ = _; rw [HRR.out, if_neg fun h => hz (congrArg Prod.snd h)]
        have hz1 : ((textR OUT).2 == 0) = false := by simpa using hz
        have hz2 : ((textR OUT).2 != 0) = true := by simpa using hz
        generalize (textR OUT).1 = tx at htx
        generalize (textR OUT).2 = te at htx hz1 hz2
        clear hz
        go_wp2_with (first | (go_at_call 13; refine Calls.mono htx ?_; rintro e w9 ⟨rfl, hb9⟩))
        go_ret2
        exact ⟨⟨_, by rw [HE.out]; rfl, by rw [HE.out]; exact ⟨none, 0, rfl, trivial, Nat.le_refl _⟩⟩, bl_then HBO.out hb9⟩
end Go.Proofs.YtjkoededkhndkaaDoor
