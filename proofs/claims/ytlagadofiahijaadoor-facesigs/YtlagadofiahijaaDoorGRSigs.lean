/- CONTRACT of the document's Sigs. -/
import Derived.Test.YtlagadofiahijaaDoorGSigs
namespace Go.Proofs.YtlagadofiahijaaDoor
open Go.ChangeShapes Go.WideShapes Go.ChangeAt Go.RowKit

set_option maxRecDepth 100000 in
set_option maxHeartbeats 8000000 in
theorem refSigs_any {S : Nat → Prop} (w : World) (u : Sh.Un) (a1 : Option Addr) (c1 : Nat) (a2 : Option Addr) (c2 : Nat) (h : Sh.kFu.row w S a2 u.funcs) (hl : u.funcs.length ≤ 1000000) (hp : ∀ f ∈ u.funcs, f.params.length ≤ 1000000 ∧ f.name.length ≤ 1000000) (hun : u.name.length ≤ 1000000) :
    Calls Tryd.prog 7 #[.agg #[.string (bs u.name), .slice a1 u.imports.length c1, .slice a2 u.funcs.length c2]] w fun e w' => (∃ v, e = .returned v ∧ kSg.rd w' (fun b => w.heap.size ≤ b) v (sigsL u)) ∧ Below w.heap.size w w' := by
  have hb0 := bl_alloc (Below.refl w.heap.size w) (unO u.name a1 u.imports.length c1 a2 u.funcs.length c2)
  have hx0 := heap_alloc_new w (unO u.name a1 u.imports.length c1 a2 u.funcs.length c2)
  obtain ⟨k0, k1, k2, _, _, _⟩ := cells3 hx0
  have HX0 : Hid _ := hx0
  have HB0 : Hid _ := hb0
  clear hx0 hb0
  go_enter Tryd.func7, Tryd.ntmps7
  go_upto_region 3 with fail
  clear k0 k1 k2
  go_loopw [3, 4] (fun v i wr => ∃ k : Nat, k ≤ u.funcs.length ∧ i = .int .i64 k ∧ (∃ y cc, v = .slice y k cc) ∧ kSg.own 33 wr (Own (w.heap.size + 1) v) (w.heap.size + 1) v ((u.funcs.take k).map (sigOf u.name)) ∧ wr.heap[w.heap.size]? = some (unO u.name a1 u.imports.length c1 a2 u.funcs.length c2) ∧ Below w.heap.size w wr) (fun _ i _ => u.funcs.length - (intOf i).toNat)
  case atStart => exact ⟨0, Nat.zero_le _, rfl, ⟨none, 0, rfl⟩, kSg.own_none _ _ _ _, HX0.out, HB0.out⟩
  case round =>
    obtain ⟨k, hk, rfl, ⟨y, cc, rfl⟩, hown, hx, hbl⟩ := hrel
    obtain ⟨k0, k1, k2, _, _, _⟩ := cells3 hx
    obtain ⟨wO, hwO⟩ : ∃ wO, wO = wr := ⟨wr, rfl⟩
    subst hwO
    have HO : Hid _ := hown
    have HX : Hid _ := hx
    have HB : Hid _ := hbl
    by_cases hlt : k < u.funcs.length
    · have hrow : Sh.kFu.row wO S a2 u.funcs := Sh.kFu.row_mono (by show 0 < 9; omega) h fun b hb hlt => ⟨hb, hbl.block b hlt⟩
      obtain ⟨b, q, name, params, sec, body, kk, mm, oo, nn, ls, b1, d1, b2, d2, b3, d3, rfl, hfe, hb, ⟨e0, e1, e2, e3, e4, e5, e6, e7, e8⟩, hd3, hpr, _, _⟩ := Sh.lfu_at hrow k hlt
      have hpl := hp _ (List.getElem_mem hlt)
      have hT := sigs_take u.name u.funcs k hlt
      rw [hfe] at hpl hT
      obtain ⟨hpl, hnl⟩ := hpl
      have hpl : params.length ≤ 1000000 := hpl
      have hnl : name.length ≤ 1000000 := hnl
      have hz1 : (bs u.name).size + 1 ≤ 9223372036854775807 := by rw [bs_size]; omega
      have hz2 : (bs u.name).size + 1 + (bs name).size ≤ 9223372036854775807 := by rw [bs_size, bs_size]; omega
      have hk1 : (k : Int) < (u.funcs.length : Int) := by omega
      have d0 : ∀ o : Obj, (wO.alloc o).cell? ⟨w.heap.size, 0, none⟩ = some (.string (bs u.name)) := fun o => alloc_cell o k0
      have hcat := name_cat u.name name
      have HT : Hid _ := hT
      have HPR : Hid _ := hpr
      clear hown hx hbl hrow hb hfe hT hpr
      go_upto_region 7 with fail
      obtain ⟨xs, ho, hlay⟩ := HO.out
      have hvl := kSg.own_lt HO.out
      have hlen : ((u.funcs.take k).map (sigOf u.name)).length = k := by rw [List.length_map, List.length_take, Nat.min_eq_left hk]
      rw [hlen] at ho
      have hx5 := heap_alloc_new wO (fuO name b1 params.length d1 sec b2 body.length d2 kk mm oo nn b3 ls.length d3)
      have hb5 := bl_alloc (Below.refl wO.heap.size wO) (fuO name b1 params.length d1 sec b2 body.length d2 kk mm oo nn b3 ls.length d3)
      have hz5 : (wO.alloc (fuO name b1 params.length d1 sec b2 body.length d2 kk mm oo nn b3 ls.length d3)).heap.size = wO.heap.size + 1 := by simp
      clear e0 e1 e2 e3 e4 e5 e6 e7 e8 d0 k0 k1 k2
      generalize wO.alloc (fuO name b1 params.length d1 sec b2 body.length d2 kk mm oo nn b3 ls.length d3) = w5 at hx5 hb5 hz5 ⊢
      have hwx := lt_of_some HX.out
      have HLA : Hid _ := hlay
      have HVL : Hid _ := hvl
      have HOO : Hid _ := ho
      have HB5 : Hid _ := hb5
      have HX5 : Hid _ := hx5
      have hpaw : ∀ W : World, Below w5.heap.size w5 W → Sh.kPa.row W S b1 params := fun W hW => Sh.kPa.row_mono (by show 0 < 3; omega) HPR.out fun b hb hlt => ⟨hb, (hW.block b (by have := hb5.size; omega)).trans (hb5.block b hlt)⟩
      have HPA : Hid _ := hpaw
      clear hlay hvl ho hb5 hx5 hpaw
      go_upto_region 8 with fail
      go_loopw [7] (fun i wr => ∃ (m : Nat) (ya : Option Addr) (yc : Nat), m ≤ params.length ∧ i = .int .i64 m ∧ wr.heap[wO.heap.size + 1]? = some (.cells #[.string (bs (u.name ++ 46 :: name)), .slice ya m yc, .bool sec] 33) ∧
        kTy.own 38 wr (fun _ => True) (wO.heap.size + 2) (.slice ya m yc) (tysL (params.take m)) ∧ Below w5.heap.size w5 wr) (fun i _ => params.length - (intOf i).toNat)
      case atStart => exact ⟨0, none, 0, Nat.zero_le _, rfl, by rw [← hz5]; exact heap_alloc_new w5 _, kTy.own_none _ _ _ _, bl_alloc (Below.refl _ _) _⟩
      case round =>
        obtain ⟨m, ya, yc, hm, rfl, hsb, hpo, hbw⟩ := hrel
        have HP : Hid _ := hpo
        have HBW : Hid _ := hbw
        have hzs : wO.heap.size + 1 < wr.heap.size := lt_of_some hsb
        have hfb := (hbw.block _ (by omega)).trans HX5.out
        by_cases hlm : m < params.length
        · obtain ⟨bp, qp, rfl, hbp, p0, p1, p2⟩ := pa_at (HPA.out wr hbw) m hlm
          obtain ⟨r0, r1, r2, g0, g1, g2⟩ := cells3 hsb
          obtain ⟨f0, f1, f2, f3⟩ := four_fu hfb
          obtain ⟨ps, hop, hlp⟩ := HP.out
          have hlenm : (tysL (params.take m)).length = m := by rw [tysL_len, List.length_take, Nat.min_eq_left hm]
          rw [hlenm] at hop
          have hT := tysL_take params m hlm
          generalize params[m].name = pn at p0
          generalize params[m].sec = psc at p1 hT
          generalize params[m].len = pln at p2 hT
          have HT2 : Hid _ := hT
          have hm1 : (m : Int) < (params.length : Int) := by omega
          have p2' : wr.cell? ⟨bp, qp + m * 3 + 1 + 1, none⟩ = some (.int .i64 pln) := p2
          have hpl : ∀ g, (Value.slice ya m yc).ownBlock = some g → wO.heap.size + 2 ≤ g := fun g hg => (hop.lt g hg).1
          have hpn : ¬ (Value.slice ya m yc).ownBlock = some (wO.heap.size + 1) := fun e => by have := hpl _ e; omega
          have ho4 : ∀ o, (wr.alloc o).drew.ownsRow (wO.heap.size + 2) 38 2 (.slice ya m yc) m ps := fun o =>
            own_kept (own_kept hop (Kept.alloc wr o (fun _ => False)) (fun _ _ h => h)) ((Kept.refl (fun _ => False) (wr.alloc o)).drew) (fun _ _ h => h)
          have HLP : Hid _ := hlp
          have hsrc : Src Tryd.prog 2 31 (.slice (some ⟨wr.heap.size, 0, none⟩) 1 1) 1 [.bool psc, .int .i64 pln] (wr.alloc (.cells #[.bool psc, .int .i64 pln] 38)).drew :=
            Src.ofSlice _ Tryd.underlying31 ⟨wr.heap.size, 0, none⟩ 1 1 [.bool psc, .int .i64 pln] rfl (fun j u hj => (World.news_of_block (cs := #[.bool psc, .int .i64 pln]) (t := 38) (fr := (0, 0)) (heap_alloc_new wr _)) j u hj) (by simp [Value.oneCell'])
          have hzd : ∀ o, (wr.alloc o).drew.heap.size = wr.heap.size + 1 := fun o => by show (wr.alloc o).heap.size = _; simp
          clear hpo hbw hfb hlp hT p0 p2 hbp
          go_upto_region 10 with fail
          go_region_law (first | go_loud (refine step_append_src ty_info rfl Tryd.underlying31 (by decide) (by rfl) _ _ (by rfl) (wO.heap.size + 2) (.slice ya m yc) m ps (by rfl) (ho4 _) (.slice (some ⟨wr.heap.size, 0, none⟩) 1 1) 1 [.bool psc, .int .i64 pln] (by rfl) hsrc (by omega) (by rw [hzd]; omega) ?_; intro y5 c5 w5' hown5 hgrow5 hat5; have hs5 : w5'.heap[wO.heap.size + 1]? = some (.cells #[.string (bs (u.name ++ 46 :: name)), .slice ya m yc, .bool sec] 33) := (hgrow5.block _ (by rw [hzd]; omega) (fun e => hpn e.symm)).trans ((heap_alloc_old wr _ hzs).trans hsb); obtain ⟨t0, t1, t2, q0, q1, q2⟩ := cells3 hs5))
          all_goals
            have HN : Hid (kTy.own 38 (w5'.setCell ⟨wO.heap.size + 1, 1, none⟩ (.slice y5 (m + 1) c5)) (fun _ => True) (wO.heap.size + 2) (.slice y5 (m + 1) c5) (tysL (params.take (m + 1)))) := by
              rw [HT2.out]
              refine ⟨ps ++ [.bool psc, .int .i64 pln], ?_, ty_lay (kTy.lay_snoc (x := ⟨psc, pln⟩) (w := wr) (S := fun _ => True) rfl (ty_lay HLP.out))⟩
              rw [show (tysL (params.take m) ++ [(⟨psc, pln⟩ : Ty)]).length = m + 1 by rw [List.length_append, hlenm]; rfl]
              exact own_kept hown5 (Kept.set w5' (wO.heap.size + 1) 1 _) (fun g hg e => by have := (hown5.lt g hg).1; omega)
            have HB5' : Hid (Below w5.heap.size w5 (w5'.setCell ⟨wO.heap.size + 1, 1, none⟩ (.slice y5 (m + 1) c5))) := by
              refine Kept.to_below (M := fun i => w5.heap.size ≤ i) ((((Below.kept HBW.out _).alloc_r _).drew.trans ((Kept.of_grown hgrow5).mono fun i _ hi => ?_)).trans ((Kept.set w5' (wO.heap.size + 1) 1 _).mono fun i _ hi => ?_)) (fun _ h => h)
              · have := hpl i hi; omega
              · omega
            have HS5 : Hid _ := set_over (o := 1) (v := .slice y5 (m + 1) c5) hs5
            clear hown5 hgrow5 hat5 hs5 t0 t1 t2 q0 q1 q2
            go_wp2_with fail
            go_roundw
            case rel => exact ⟨m + 1, y5, c5, by omega, by go_num, HS5.out, HN.out, HB5'.out⟩
            case measure => simp [intOf]; omega
        · obtain rfl : m = params.length := by omega
          have hsb' : wr.heap[wO.heap.size + 1]? = some (.cells #[.string (bs (u.name ++ 46 :: name)), .slice ya (tysL params).length yc, .bool sec] 33) := by rw [tysL_len]; exact hsb
          obtain ⟨r0, r1, r2, g0, g1, g2⟩ := cells3 hsb'
          obtain ⟨f0, f1, f2, f3⟩ := four_fu hfb
          have h6 : Below w5.drew.heap.size w5.drew wr := bl_then (⟨rfl, rfl, rfl, Nat.le_refl _, fun _ _ => rfl⟩ : Below w5.drew.heap.size w5.drew w5) hbw
          have hrd : kTy.row wr (fun b => w5.drew.heap.size ≤ b) ya (tysL params) ∧ (tysL params).length ≤ yc := by
            have h1 := HP.out
            rw [List.take_length, ← tysL_len params] at h1
            obtain ⟨qa, qc, hqe, hqr, hqc⟩ := kTy.own_rd (T := fun b => w5.drew.heap.size ≤ b) (S := fun b => w5.drew.heap.size ≤ b) (by
              obtain ⟨ps, h1, h2⟩ := h1
              exact ⟨ps, h1, ty_lay h2⟩) (fun _ h => h) (fun g hg => by have := (kTy.own_lt h1 g hg).1; show w5.heap.size ≤ g; omega)
            cases hqe
            exact ⟨hqr, hqc⟩
          have HRD : Hid _ := hrd
          have H6 : Hid _ := h6
          have hz6 : w.heap.size + 1 ≤ wr.heap.size := by omega
          clear hpo hbw hfb hsb hsb' hrd h6
          go_upto_region 11 with fail
          go_wp2_with (first | (at_builtin; go_loud (refine wpList_append_src sg_info rfl Tryd.underlying28 (by decide) _ rfl _ _ rfl (w.heap.size + 1) (.slice y k cc) k xs rfl (sig_own HOO.out HB5.out H6.out _) (.slice (some ⟨wr.heap.size, 0, none⟩) 1 1) 1 [.string (bs (u.name ++ 46 :: name)), .slice ya (tysL params).length yc, .bool sec] rfl (src_blk _ _ _ Tryd.underlying28 _ 3 _ rfl rfl (by simp [Value.oneCell'])) (by omega) (by simp; omega) ?_; intro y7 c7 w7 hown7 hgrow7 hat7; refine Hid.out ?_)))
          refine Lib.hid ?_
          have hN := sigs_push HLA.out HVL.out HB5.out (by omega) H6.out HRD.out.1 HRD.out.2 hown7 hgrow7 hat7 (sg := sigOf u.name ⟨name, params, sec, body, .mk kk mm oo nn ls⟩) hlen rfl rfl rfl (by omega)
          rw [← HT.out] at hN
          have HN : Hid _ := hN
          have HX7 : Hid (w7.heap[w.heap.size]? = some (unO u.name a1 u.imports.length c1 (some ⟨b, q, none⟩) u.funcs.length c2)) := (sig_keep HVL.out (fun b hb => by show b < w5.heap.size; rcases hb with e | e <;> omega) H6.out hgrow7 _ (.inl rfl)).trans ((HB5.out.block _ (lt_of_some HX.out)).trans HX.out)
          have HB7 : Hid (Below w.heap.size w w7) := sigs_below HB.out HVL.out HB5.out H6.out hgrow7
          clear hown7 hgrow7 hat7 hN r0 r1 r2 g0 g1 g2 f0 f1 f2 f3
          go_wp2_with fail
          go_roundw
          case rel => exact ⟨k + 1, by omega, by go_num, ⟨_, _, rfl⟩, HN.out, HX7.out, HB7.out⟩
          case measure => simp [intOf]; omega
    · obtain rfl : k = u.funcs.length := by omega
      rw [List.take_length] at HO
      have hrd : kSg.rd wO (fun b => w.heap.size ≤ b) (.slice y (sigsL u).length cc) (sigsL u) := by
        have h1 := HO.out
        have e : (.slice y u.funcs.length cc : Value) = .slice y (sigsL u).length cc := by rw [sigsL_len]
        rw [e] at h1
        exact kSg.own_rd h1 (fun b hb => by have := hb.1; omega) fun g hg => by have := (kSg.own_lt h1 g hg).1; omega
      rw [sigsL_len] at hrd
      have HR : Hid _ := hrd
      clear hown hx hbl hrd k0 k1
      go_wp2_with fail
      go_ret
      exact ⟨⟨_, rfl, HR.out⟩, HB.out⟩
end Go.Proofs.YtlagadofiahijaaDoor
