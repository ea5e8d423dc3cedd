/- CONTRACT of the document's Spans. -/
import Derived.Test.YtkbanngbchhgaaaNTouch
import Derived.Test.YtkbanngbchhgaaaNSpans
import Derived.Test.YtkbanngbchhgaaaIRRight
namespace Go.Proofs.Ytkbanngbchhgaaa
open Go.ChangeShapes Go.WideShapes Go.ChangeAt Go.RowKit

/-- The spans of the first registers. -/
def spanL (c : Co) (n : Nat) : List (Int × Int) := (List.range n).map (spanN c)
theorem spanL_len (c : Co) (n : Nat) : (spanL c n).length = n := by simp [spanL]
theorem spanL_succ (c : Co) (n : Nat) : spanL c (n + 1) = spanL c n ++ [spanN c n] := by simp [spanL, List.range_succ]
theorem spansM_eq {c : Co} (hr : (rightR c).1 = 0) : spansM c = spanL c c.regs.toNat := by
  have hRI := regs_in hr
  apply List.ext_getElem
  · rw [spansM_length, spanL_len]
  · intro r h1 h2
    rw [spansM_get c r (by rw [spansM_length] at h1; exact h1) fun y hy x hx => (hRI y hy x hx).1]
    simp [spanL]
theorem spanR_drop (r : Int) (l : List Ir) (k : Nat) (hk : k < l.length) : spanR r k (l.drop k) = if touchB l[k] r then ((k : Int), max (spanR r (k + 1) (l.drop (k + 1))).2 k) else spanR r (k + 1) (l.drop (k + 1)) := by
  rw [List.drop_eq_getElem_cons hk]
  rfl
theorem readsL_len7 {y : Ir} (h : y.kind = 7 → y.args.length ≤ 1000) : (readsL y).length ≤ 1000000 := by
  unfold readsL
  split
  · simp
  split
  · simp
  split
  · simp
  split
  · rename_i h7; have := h h7; omega
  · simp
theorem src_sp (w : World) (a b : Int) : Src Try.prog 2 31 (.slice (some ⟨w.heap.size, 0, none⟩) 1 1) 1 [.int .i64 a, .int .i64 b] (w.alloc (.cells #[.int .i64 a, .int .i64 b] 26)) :=
  Src.ofSlice _ Try.underlying31 ⟨w.heap.size, 0, none⟩ 1 1 [.int .i64 a, .int .i64 b] rfl (World.news_of_block (cs := #[.int .i64 a, .int .i64 b]) (t := 26) (fr := (0, 0)) (heap_alloc_new w _)) (by simp [Value.oneCell'])
theorem two_at {w : World} {b : Nat} {x0 x1 : Value} {t : TypeId} (h : w.heap[b]? = some (.cells #[x0, x1] t)) : w.cell? ⟨b, 0, none⟩ = some x0 ∧ w.cell? ⟨b, 1, none⟩ = some x1 ∧ (∀ k, w.frozen? ⟨b, k, none⟩ = false) := by
  refine ⟨?_, ?_, fun k => ?_⟩ <;> simp [World.cell?, World.frozen?, h]
theorem refSpans_no (x : Co) (pa : Option Addr) (pc : Nat) (la : Option Addr) (lc : Nat) (w : World) (hin : CoIn w (fun _ => True) x pa pc la lc) (hok : CoOk x) (hps : x.ps.length ≤ 1000000) (hlm : x.l.length ≤ 1000000) (hr : (rightR x).1 ≠ 0) :
    Calls Try.prog 13 #[coV x pa pc la lc] w fun e w' => e = .returned (.slice none 0 0) ∧ Below w.heap.size w w' := by
  have h0 := bl_alloc (Below.refl w.heap.size w) (coO x pa pc la lc)
  have hri := refRight_any x pa pc la lc (w.alloc (coO x pa pc la lc)) (coIn_on hin h0) hok hps (by omega)
  have H0 : Hid _ := h0
  obtain ⟨k0, k1, k2, k3, k4⟩ := co_block (heap_alloc_new w (coO x pa pc la lc))
  clear h0
  unfold coV at hri ⊢
  have hr' : ((rightR x).1 == 0) = false := by simpa using hr
  generalize (rightR x).1 = e1 at hri hr'
  generalize (rightR x).2 = e2 at hri
  go_enter Try.func13, Try.ntmps13
  go_wp2_with (first | (go_at_call 18; refine hri.mono ?_; rintro e w2 ⟨rfl, hb2⟩))
  go_ret
  exact ⟨rfl, bl_then H0.out hb2⟩
theorem grown_w3 {w3 wa w12 : World} {v : Value} {e : TypeId} {sz n : Nat} {xs : List Value} (hb : Below w3.heap.size w3 wa) (ho : wa.ownsRow w3.heap.size e sz v n xs) (h : wa.grownBy w12 v.ownBlock) : Below w3.heap.size w3 w12 :=
  Kept.to_below ((Below.kept hb (fun k => w3.heap.size ≤ k)).trans ((Kept.of_grown h).mono fun k _ e => (World.ownsRow.lt ho k e).1)) fun _ h => h
set_option maxRecDepth 100000 in
set_option maxHeartbeats 8000000 in
theorem refSpans_yes (x : Co) (pa : Option Addr) (pc : Nat) (la : Option Addr) (lc : Nat) (w : World) (hin : CoIn w (fun _ => True) x pa pc la lc) (hok : CoOk x) (hr : (rightR x).1 = 0) :
    Calls Try.prog 13 #[coV x pa pc la lc] w fun e w' => (∃ y c, e = .returned (.slice y x.regs.toNat c) ∧ kSp.row w' (fun b => w.heap.size ≤ b) y (spanL x x.regs.toNat)) ∧ Below w.heap.size w w' := by
  have h0 := bl_alloc (Below.refl w.heap.size w) (coO x pa pc la lc)
  have hx0 := heap_alloc_new w (coO x pa pc la lc)
  obtain ⟨hp6, hlp, hl4, hws, hr4⟩ := right_bds hr
  have ha6 := right_args hr
  have hty : x.ps.all tyOk = true := by obtain ⟨h1, h2, h3, h4, h5, h6, h7, h8, h9⟩ := formB_parts (right_form hr); exact h5
  have hri := refRight_any x pa pc la lc (w.alloc (coO x pa pc la lc)) (coIn_on hin h0) hok (by omega) (by omega)
  obtain ⟨n, hn⟩ : ∃ n : Nat, x.regs = n := ⟨x.regs.toNat, by omega⟩
  have hnt : x.regs.toNat = n := by omega
  rw [hnt]
  rw [hr] at hri
  unfold coV at hri ⊢
  generalize (rightR x).2 = e2 at hri
  have hn1 : n ≤ 10000 := by omega
  have HN : Hid _ := hn
  have HA6 : Hid _ := ha6
  have HX0 : Hid _ := hx0
  have H0 : Hid _ := h0
  have HI : Hid _ := hin
  obtain ⟨k0, k1, k2, k3, k4⟩ := co_block hx0
  clear h0 hx0 ha6 hn hr hr4 hws hnt
  go_enter Try.func13, Try.ntmps13
  go_upto_region 4 with (first | (go_at_call 18; refine hri.mono ?_; rintro e w2 ⟨rfl, hb2⟩))
  have hX2 := (hb2.block _ (lt_of_some HX0.out)).trans HX0.out
  have hB2 := bl_then H0.out hb2
  have hwo := refWords_any w2 pa x.ps pc (coIn_on HI.out hB2).ps hty (by omega)
  obtain ⟨k0, k1, k2, k3, k4⟩ := co_block hX2
  have HX2 : Hid _ := hX2
  have HB2 : Hid _ := hB2
  clear hri hb2 hX2 hB2 HX0 H0 hin
  go_upto_region 7 with (first | (go_at_call 26; refine hwo.mono ?_; rintro e w3 ⟨rfl, hb3⟩))
  have HX3 : Hid _ := (hb3.block _ (lt_of_some HX2.out)).trans HX2.out
  have HB3 : Hid _ := bl_then HB2.out hb3
  clear hwo hb3 HX2 HB2 k0 k1 k2 k3 k4
  generalize cellsN x.ps = cn
  obtain ⟨g, hg⟩ : ∃ g, wordsN x.ps = g := ⟨_, rfl⟩
  rw [hg]
  have HG : Hid _ := hg
  clear hg
  go_loopw [7, 8] (fun v j wr => ∃ (r : Nat) (y : Option Addr) (cc : Nat), r ≤ n ∧ j = .int .i64 r ∧ v = .slice y r cc ∧ wr.ownsRow w3.heap.size 26 2 (.slice y r cc) r (pcs (spanL x r)) ∧ Below w3.heap.size w3 wr) (fun _ j _ => n - (intOf j).toNat)
  case atStart => exact ⟨0, none, 0, Nat.zero_le _, rfl, rfl, World.ownsRow_nil _ _ _ _, Below.refl _ _⟩
  case round =>
    obtain ⟨r, y, cc, hrn, rfl, rfl, hown, hbl⟩ := hrel
    obtain ⟨wO, hwO⟩ : ∃ wO, wO = wr := ⟨wr, rfl⟩
    subst hwO
    have hX := (hbl.block _ (lt_of_some HX3.out)).trans HX3.out
    rw [coO_of, HN.out] at hX
    obtain ⟨k0, k1, k2, k3, k4⟩ := five hX
    have HX : Hid _ := hX
    have HOW : Hid _ := hown
    have HBL : Hid _ := hbl
    have HBW : Hid _ := bl_then HB3.out hbl
    clear hX
    by_cases hlt : r < n
    · have hr1 : (r : Int) < (n : Int) := by omega
      have d2 : ∀ o : Obj, (wO.alloc o).cell? ⟨w.heap.size, 4, none⟩ = some (.slice la x.l.length lc) := fun o => alloc_cell o k4
      clear hown hbl
      go_upto_region 11 with fail
      have hx4 := heap_alloc_new wO (.cells #[.int .i64 (-1), .int .i64 (-1)] 26)
      have hb4 := bl_alloc (Below.refl wO.heap.size wO) (.cells #[.int .i64 (-1), .int .i64 (-1)] 26)
      have HX4 : Hid _ := hx4
      have HB4 : Hid _ := hb4
      clear hx4 hb4 d2 k0 k1 k2 k3 k4
      generalize wO.alloc (.cells #[.int .i64 (-1), .int .i64 (-1)] 26) = w5 at HX4 HB4 ⊢
      go_loopw [10] (fun i wi => ∃ k : Nat, k ≤ x.l.length ∧ i = .int .i64 ((k : Int) - 1) ∧ wi.heap[wO.heap.size]? = some (.cells #[.int .i64 (spanR r k (x.l.drop k)).1, .int .i64 (spanR r k (x.l.drop k)).2] 26) ∧ Below wO.heap.size wO wi) (fun i _ => (intOf i + 1).toNat)
      case atStart => exact ⟨x.l.length, Nat.le_refl _, by go_num, by rw [List.drop_length]; exact HX4.out, HB4.out⟩
      case round =>
        obtain ⟨k, hk, rfl, hxk, hbk⟩ := hrel
        have hXk := (hbk.block _ (lt_of_some HX.out)).trans HX.out
        obtain ⟨k0, k1, k2, k3, k4⟩ := five hXk
        obtain ⟨s0, s1, sf⟩ := two_at hxk
        have HXK : Hid _ := hxk
        have HBK : Hid _ := hbk
        clear hXk
        rcases Nat.eq_zero_or_pos k with rfl | hkp
        · have hS : spanR (r : Int) 0 (x.l.drop 0) = spanR r 0 x.l := rfl
          rw [hS] at HXK s0 s1
          have hSN : spanN x r = (if r < g then -1 else (spanR r 0 x.l).1, (spanR r 0 x.l).2) := by unfold spanN; rw [HG.out]
          have hxl := lt_of_some HX4.out
          have HSN : Hid _ := hSN
          generalize spanR (r : Int) 0 x.l = sp at HXK s0 s1 HSN
          obtain ⟨sa, sb⟩ := sp
          clear hxk hbk hS hSN hxl
          by_cases hrg : r < g
          · have hrg' : (r : Int) < (g : Int) := by omega
            have q0f := sf 0
            have hxa := setCell_at (o := 0) (v := .int .i64 (-1)) HXK.out
            have hba : Below wO.heap.size wO (wr.setCell ⟨wO.heap.size, 0, none⟩ (.int .i64 (-1))) := bl_set HBK.out _ 0 _ (Nat.le_refl _)
            obtain ⟨m0, m1, _⟩ := two_at hxa
            have HSR : Hid (spanN x r = (-1, sb)) := by show _ = _; rw [HSN.out, if_pos hrg]
            clear sf k0 k1 k2 k3 k4
            go_upto_region 18 with fail
            clear s0 s1
            generalize wr.setCell ⟨wO.heap.size, 0, none⟩ (.int .i64 (-1)) = wa at hxa hba m0 m1 ⊢
            have ho2 := own_kept (own_kept HOW.out (Below.kept hba (fun _ => False)) fun _ _ h => h) (Below.kept (bl_alloc (Below.refl wa.heap.size wa) (.cells #[.int .i64 (-1), .int .i64 sb] 26)) (fun _ => False)) fun _ _ h => h
            have hsrc := src_sp wa (-1) sb
            have hsz : w3.heap.size ≤ (wa.alloc (.cells #[.int .i64 (-1), .int .i64 sb] 26)).heap.size := by have := HBL.out.size; have := hba.size; simp; omega
            have hbe : Below w3.heap.size w3 (wa.alloc (.cells #[.int .i64 (-1), .int .i64 sb] 26)) := bl_alloc (bl_then HBL.out hba) _
            have HBE : Hid _ := hbe
            have HO2 : Hid _ := ho2
            clear hxa hba hbe
            go_wp2_with (first | (at_builtin; refine wpList_append_src sp_info rfl Try.underlying31 (by decide) _ rfl _ _ rfl w3.heap.size (Value.slice y r cc) r (pcs (spanL x r)) rfl ho2 _ 1 [.int .i64 (-1), .int .i64 sb] rfl hsrc (by omega) hsz ?_; intro y2 c2 w12 hown2 hgrow2 hat2; have HB12 : Hid (Below w3.heap.size w3 w12) := (grown_w3 HBE.out HO2.out hgrow2); have HOW2 : Hid (w12.ownsRow w3.heap.size 26 2 (.slice y2 (r + 1) c2) (r + 1) (pcs (spanL x (r + 1)))) := (by show World.ownsRow _ _ _ _ _ _ _; rw [spanL_succ, pcs_append, HSR.out]; exact hown2); clear hown2 hgrow2 hat2))
            go_roundw
            case rel => exact ⟨r + 1, y2, c2, by omega, by go_num, rfl, HOW2.out, HB12.out⟩
            case measure => first | (simp [intOf]; done) | (simp [intOf]; omega)
          · have hrg' : ¬ (r : Int) < (g : Int) := by omega
            have hxa := HXK.out
            have hba := HBK.out
            obtain ⟨m0, m1, _⟩ := two_at hxa
            have HSR : Hid (spanN x r = (sa, sb)) := by show _ = _; rw [HSN.out, if_neg hrg]
            clear sf k0 k1 k2 k3 k4
            go_upto_region 18 with fail
            clear s0 s1
            generalize wr = wa at hxa hba m0 m1 ⊢
            have ho2 := own_kept (own_kept HOW.out (Below.kept hba (fun _ => False)) fun _ _ h => h) (Below.kept (bl_alloc (Below.refl wa.heap.size wa) (.cells #[.int .i64 sa, .int .i64 sb] 26)) (fun _ => False)) fun _ _ h => h
            have hsrc := src_sp wa sa sb
            have hsz : w3.heap.size ≤ (wa.alloc (.cells #[.int .i64 sa, .int .i64 sb] 26)).heap.size := by have := HBL.out.size; have := hba.size; simp; omega
            have hbe : Below w3.heap.size w3 (wa.alloc (.cells #[.int .i64 sa, .int .i64 sb] 26)) := bl_alloc (bl_then HBL.out hba) _
            have HBE : Hid _ := hbe
            have HO2 : Hid _ := ho2
            clear hxa hba hbe
            go_wp2_with (first | (at_builtin; refine wpList_append_src sp_info rfl Try.underlying31 (by decide) _ rfl _ _ rfl w3.heap.size (Value.slice y r cc) r (pcs (spanL x r)) rfl ho2 _ 1 [.int .i64 sa, .int .i64 sb] rfl hsrc (by omega) hsz ?_; intro y2 c2 w12 hown2 hgrow2 hat2; have HB12 : Hid (Below w3.heap.size w3 w12) := (grown_w3 HBE.out HO2.out hgrow2); have HOW2 : Hid (w12.ownsRow w3.heap.size 26 2 (.slice y2 (r + 1) c2) (r + 1) (pcs (spanL x (r + 1)))) := (by show World.ownsRow _ _ _ _ _ _ _; rw [spanL_succ, pcs_append, HSR.out]; exact hown2); clear hown2 hgrow2 hat2))
            go_roundw
            case rel => exact ⟨r + 1, y2, c2, by omega, by go_num, rfl, HOW2.out, HB12.out⟩
            case measure => first | (simp [intOf]; done) | (simp [intOf]; omega)
        · obtain ⟨k, rfl⟩ : ∃ j, k = j + 1 := ⟨k - 1, by omega⟩
          have hkl : k < x.l.length := by omega
          have hrow : kIr.row wr (fun _ => True) la x.l := (coIn_on HI.out (bl_then HBW.out hbk)).l
          obtain ⟨b, q, ga, gc, hla, _, hb, hia, hgc, _, hrw⟩ := ir_at hrow k hkl
          obtain ⟨e0, e1, e2, e3, e4, e5, e6, e7, e8⟩ := hia
          have hD := spanR_drop (r : Int) x.l k hkl
          have hRL := readsL_len7 (HA6.out k hkl)
          have hto := touches_any x.l[k] ga gc (r : Int) wr hrw hgc hRL
          rw [hla] at k4
          unfold irV at hto
          generalize x.l[k] = yy at hto hD e0 e1 e2 e3 e4 e5 e6 e7 e8 hgc hrw hRL
          have hki : ((k + 1 : Nat) : Int) - 1 = (k : Int) := by omega
          rw [hki]
          have hk0 : (0 : Int) ≤ (k : Int) := by omega
          have hk1 : (k : Int) < (x.l.length : Int) := by omega
          have HD : Hid _ := hD
          clear hxk hbk hrow hb hD hrw hgc hRL hla hki
          have hkk : 0 < k + 1 := by omega
          rcases hT : touchB yy (r : Int) with _ | _ <;> rw [hT] at hto
          · have HE : Hid (spanR (r : Int) (k + 1) (x.l.drop (k + 1)) = spanR (r : Int) k (x.l.drop k)) := by show _ = _; rw [HD.out, hT]; rfl
            go_wp2_with (first | (go_at_call 27; refine hto.mono ?_; rintro e w9 ⟨rfl, hb9⟩))
            go_roundw
            case rel => exact ⟨k, by omega, rfl, by rw [← HE.out]; exact (hb9.block _ (lt_of_some HXK.out)).trans HXK.out, bl_then HBK.out hb9⟩
            case measure => first | (simp [intOf]; done) | (simp [intOf]; omega)
          · have HE : Hid (spanR (r : Int) k (x.l.drop k) = ((k : Int), max (spanR (r : Int) (k + 1) (x.l.drop (k + 1))).2 k)) := by show _ = _; rw [HD.out, hT]; rfl
            generalize spanR (r : Int) (k + 1) (x.l.drop (k + 1)) = sp at HXK s0 s1 HE
            obtain ⟨sa, sb⟩ := sp
            go_upto_region 14 with (first | (go_at_call 27; refine hto.mono ?_; rintro e w9 ⟨rfl, hb9⟩))
            have hx9 := (hb9.block _ (lt_of_some HXK.out)).trans HXK.out
            have HB9 : Hid _ := bl_then HBK.out hb9
            obtain ⟨q0, q1, qf⟩ := two_at hx9
            have q0f := qf 0
            have q1f := qf 1
            have hx10 := setCell_at (o := 0) (v := .int .i64 (k : Int)) hx9
            have HX10 : Hid _ := hx10
            have m1 : (w9.setCell ⟨wO.heap.size, 0, none⟩ (.int .i64 (k : Int))).cell? ⟨wO.heap.size, 1, none⟩ = some (.int .i64 sb) := by simp [World.cell?, hx10]
            have m2 : (w9.setCell ⟨wO.heap.size, 0, none⟩ (.int .i64 (k : Int))).frozen? ⟨wO.heap.size, 1, none⟩ = false := by simp [World.frozen?, hx10]
            clear hto hb9 hx9 hx10 qf s0 s1 sf k0 k1 k2 k3 k4 e0 e1 e2 e3 e4 e5 e6 e7 e8
            have hx11 := fun v => setCell_at (o := 1) (v := .int .i64 v) HX10.out
            have HX11 : Hid _ := hx11
            have HB11 : Hid (∀ v, Below wO.heap.size wO ((w9.setCell ⟨wO.heap.size, 0, none⟩ (.int .i64 (k : Int))).setCell ⟨wO.heap.size, 1, none⟩ (.int .i64 v))) := fun v => bl_set (bl_set HB9.out _ 0 _ (Nat.le_refl _)) _ 1 _ (Nat.le_refl _)
            clear hx11
            by_cases hgt : sb < (k : Int)
            · have HM : Hid (max sb (k : Int) = (k : Int)) := by show _ = _; omega
              go_wp2_with fail
              go_roundw
              case rel => exact ⟨k, by omega, rfl, by rw [HE.out]; simp only; rw [HM.out]; exact HX11.out _, HB11.out _⟩
              case measure => first | (simp [intOf]; done) | (simp [intOf]; omega)
            · have HM : Hid (max sb (k : Int) = sb) := by show _ = _; omega
              go_wp2_with fail
              go_roundw
              case rel => exact ⟨k, by omega, rfl, by rw [HE.out]; simp only; rw [HM.out]; exact HX11.out _, HB11.out _⟩
              case measure => first | (simp [intOf]; done) | (simp [intOf]; omega)
    · obtain rfl : r = n := by omega
      have hrow : kSp.row wO (fun b => w.heap.size ≤ b) y (spanL x r) := by
        obtain ⟨y', c', he, hr, _⟩ := kSp.own_rd (t := 26) (w := wO) (S := fun b => w3.heap.size ≤ b) (T := fun b => w.heap.size ≤ b) (l := spanL x r) (v := .slice y (spanL x r).length cc) ⟨pcs (spanL x r), by rw [spanL_len]; exact hown, pcs_lay _⟩ (fun b h => Nat.le_trans HB3.out.size h) fun g hg => Nat.le_trans HB3.out.size (World.ownsRow.lt hown g (by rw [spanL_len] at hg; exact hg)).1
        obtain ⟨rfl, rfl⟩ : y = y' ∧ cc = c' := by simpa using he
        exact hr
      have HRW : Hid _ := hrow
      clear hown hbl hrow
      go_wp2_with fail
      go_ret
      exact ⟨⟨y, cc, rfl, HRW.out⟩, HBW.out⟩
end Go.Proofs.Ytkbanngbchhgaaa
