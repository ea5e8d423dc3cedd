/- CONTRACTS of the reference's Number and typ. -/
import Derived.Test.YtjkoededkhndkaaDoorFRCut
namespace Go.Proofs.YtjkoededkhndkaaDoor
open Go.ChangeShapes Go.WideShapes Go.ChangeAt Go.RowKit

theorem digs_bad {s : List UInt8} {k n : Nat} (hk : k < s.length) (h : s[k] < 48 ∨ 57 < s[k]) : digsR (s.drop k) n = none := by
  rw [List.drop_eq_getElem_cons hk, digsR, if_pos h]
theorem digs_on {s : List UInt8} {k n : Nat} (hk : k < s.length) (h : ¬ (s[k] < 48 ∨ 57 < s[k])) : digsR (s.drop k) n = digsR (s.drop (k + 1)) (n * 10 + (s[k].toNat - 48)) := by
  rw [List.drop_eq_getElem_cons hk, digsR, if_neg h]
  have h1 : ¬ s[k] < 48 := fun e => h (.inl e)
  have h2 : 48 ≤ s[k].toNat := Nat.not_lt.1 fun e => h1 (UInt8.lt_iff_toNat_lt.2 e)
  have h4 : (s[k] - 48).toNat = s[k].toNat - 48 := UInt8.toNat_sub_of_le _ _ (UInt8.le_iff_toNat_le.2 h2)
  rw [h4]
def NumPost (s : List UInt8) (w : World) (e : Ending) (w' : World) : Prop := (∃ b, e = .returned (.tuple #[.int .u64 (numR s : Int), .bool b])) ∧ numR s < 10000000000 ∧ w' = w
set_option maxRecDepth 100000 in
set_option maxHeartbeats 8000000 in
theorem rnum_any (s : List UInt8) (w : World) (hs : s.length ≤ 1000000) :
    Calls Tryd.prog 19 #[.string (bs s), .int .u64 1, .int .u64 16] w fun e w' => NumPost s w e w' := by
  have hsz : (bs s).size = s.length := bs_size s
  have hhd : ∀ (h : 0 < s.length), s.headD 0 = s[0] := fun h => by cases s with
    | nil => simp at h
    | cons c l => rfl
  by_cases h0 : s = [] ∨ 10 < s.length ∨ (1 < s.length ∧ s.headD 0 = 48)
  · have HN : Hid (numR s = 0) := if_pos h0
    have HR : Hid (numR s < 10000000000) := by show _ < _; rw [HN.out]; decide
    by_cases h1 : s.length = 0
    · have h1' : ((s.length : Int) == 0) = true := by rw [h1]; rfl
      clear h0
      go_enter Tryd.func19, Tryd.ntmps19
      go_wp2_with fail
      go_ret2
      exact ⟨⟨false, by rw [HN.out]; rfl⟩, HR.out, rfl⟩
    have h1' : ((s.length : Int) == 0) = false := by rw [beq_eq_false_iff_ne]; omega
    by_cases h2 : 10 < s.length
    · have h2' : (10 : Int) < (s.length : Int) := by omega
      clear h0
      go_enter Tryd.func19, Tryd.ntmps19
      go_wp2_with fail
      go_ret2
      exact ⟨⟨false, by rw [HN.out]; rfl⟩, HR.out, rfl⟩
    have h2' : ¬ (10 : Int) < (s.length : Int) := by omega
    obtain ⟨h3, h4⟩ : 1 < s.length ∧ s.headD 0 = 48 := by
      rcases h0 with e | e | e
      · rw [e] at h1; simp at h1
      · omega
      · exact e
    have h3' : (1 : Int) < (s.length : Int) := by omega
    have hks : 0 < (bs s).size := by omega
    have hat := bs_at s 0 hks
    rw [hhd (by omega)] at h4
    rw [h4] at hat
    clear h0
    go_enter Tryd.func19, Tryd.ntmps19
    go_wp2_with fail
    go_ret2
    exact ⟨⟨false, by rw [HN.out]; rfl⟩, HR.out, rfl⟩
  · have HN : Hid (numR s = (digsR s 0).getD 0) := if_neg h0
    have h1 : s.length ≠ 0 := fun e => h0 (.inl (List.eq_nil_of_length_eq_zero e))
    have hpos : 0 < s.length := Nat.pos_of_ne_zero h1
    have h2 : s.length ≤ 10 := Nat.not_lt.1 fun e => h0 (.inr (.inl e))
    have h3 : s.length = 1 ∨ (1 < s.length ∧ s[0]'hpos ≠ 48) := by
      by_cases h : 1 < s.length
      · exact .inr ⟨h, fun e => h0 (.inr (.inr ⟨h, by rw [hhd (by omega), e]⟩))⟩
      · exact .inl (by omega)
    have h1' : ((s.length : Int) == 0) = false := by rw [beq_eq_false_iff_ne]; omega
    have h2' : ¬ (10 : Int) < (s.length : Int) := by omega
    have hks : 0 < (bs s).size := by omega
    have hat := bs_at s 0 hks
    have h3' : ((1 : Int) < (s.length : Int) ∧ (((s[0]'hpos).toNat : Int) == 48) = false) ∨ ¬ (1 : Int) < (s.length : Int) := by
      rcases h3 with h | ⟨h, h4⟩
      · exact .inr (by omega)
      · refine .inl ⟨by omega, ?_⟩
        rw [beq_eq_false_iff_ne]
        exact fun e => h4 (UInt8.toNat_inj.1 (by show _ = 48; omega))
    clear h0 h3 hhd
    go_enter Tryd.func19, Tryd.ntmps19
    rcases h3' with ⟨g1, g2⟩ | g1
    all_goals
      go_upto_region 5 with fail
      clear hat
      go_loopw [8, 9] (fun n i wr => ∃ k m : Nat, k ≤ s.length ∧ i = .int .i64 k ∧ n = .int .u64 (m : Int) ∧ digsR s 0 = digsR (s.drop k) m ∧ m < 10 ^ k ∧ wr = w) (fun _ i _ => s.length - (intOf i).toNat)
      case atStart => exact ⟨0, 0, Nat.zero_le _, rfl, rfl, rfl, by decide, rfl⟩
      case round =>
        obtain ⟨k, m, hk, rfl, rfl, hd, hm, hw⟩ := hrel
        rw [hw]
        have HD : Hid _ := hd
        clear hd hw
        by_cases hlt : k < s.length
        · have hk0 : (0 : Int) ≤ (k : Int) := by omega
          have hk1 : (k : Int) < (s.length : Int) := by omega
          have hks : k < (bs s).size := by omega
          have hat := bs_at s k hks
          have hm9 : m < 1000000000 := Nat.lt_of_lt_of_le hm (Nat.pow_le_pow_right (n := 10) (by decide) (show k ≤ 9 by omega))
          by_cases hlo : s[k].toNat < 48
          · have HE : Hid (numR s = 0) := by show _ = _; rw [HN.out, HD.out, digs_bad hlt (.inl (UInt8.lt_iff_toNat_lt.2 hlo))]; rfl
            have hlo' : ((s[k].toNat : Nat) : Int) < 48 := by omega
            have HR : Hid (numR s < 10000000000) := by show _ < _; rw [HE.out]; decide
            go_wp2_with fail
            go_ret2
            exact ⟨⟨false, by rw [HE.out]; rfl⟩, HR.out, rfl⟩
          by_cases hhi : 57 < s[k].toNat
          · have HE : Hid (numR s = 0) := by show _ = _; rw [HN.out, HD.out, digs_bad hlt (.inr (UInt8.lt_iff_toNat_lt.2 hhi))]; rfl
            have hlo' : ¬ ((s[k].toNat : Nat) : Int) < 48 := by omega
            have hhi' : 57 < ((s[k].toNat : Nat) : Int) := by omega
            have HR : Hid (numR s < 10000000000) := by show _ < _; rw [HE.out]; decide
            go_wp2_with fail
            go_ret2
            exact ⟨⟨false, by rw [HE.out]; rfl⟩, HR.out, rfl⟩
          have HE : Hid (digsR (s.drop k) m = digsR (s.drop (k + 1)) (m * 10 + (s[k].toNat - 48))) := digs_on (n := m) hlt (fun e => by
            rcases e with e | e
            · exact hlo (UInt8.lt_iff_toNat_lt.1 e)
            · exact hhi (UInt8.lt_iff_toNat_lt.1 e))
          have hm10 : m * 10 + (s[k].toNat - 48) < 10 ^ (k + 1) := by rw [Nat.pow_succ]; omega
          obtain ⟨c, hc⟩ : ∃ c, s[k].toNat = c + 48 := ⟨s[k].toNat - 48, by omega⟩
          have HDN : Hid (digsR s 0 = digsR (s.drop (k + 1)) (m * 10 + c)) := by show _ = _; rw [HD.out, HE.out, hc, Nat.add_sub_cancel]
          have hc9 : c ≤ 9 := by omega
          rw [hc] at hm10
          have hcc : (((bs s)[k]).toNat : Int) = (c : Int) + 48 := by rw [hat]; show ((s[k].toNat : Nat) : Int) = _; omega
          clear hat hlo hhi hc
          go_wp2_with fail
          go_roundw
          case rel => exact ⟨k + 1, m * 10 + c, by omega, by go_num, by go_num, HDN.out, by rwa [Nat.add_sub_cancel] at hm10, trivial⟩
          case measure => simp [intOf]; omega
        · have hkl : k = s.length := by omega
          have HE : Hid (numR s = m) := by show _ = _; rw [HN.out, HD.out, hkl, List.drop_length]; rfl
          have HR : Hid (numR s < 10000000000) := by
            show _ < _
            rw [HE.out]
            exact Nat.lt_of_lt_of_le hm (Nat.pow_le_pow_right (n := 10) (by decide) (show k ≤ 10 by omega))
          have hnl : ¬ (k : Int) < (s.length : Int) := by omega
          go_wp2_with fail
          all_goals
            go_ret2
            exact ⟨⟨_, by rw [HE.out]; rfl⟩, HR.out, rfl⟩
theorem two_boxF (w : World) (o1 o2 : Obj) : ((w.alloc o1).alloc o2).heap[w.heap.size]? = some o1 ∧ ((w.alloc o1).alloc o2).heap[w.heap.size + 1]? = some o2 ∧ Below w.heap.size w ((w.alloc o1).alloc o2) ∧ ((w.alloc o1).alloc o2).heap.size = w.heap.size + 2 := by
  refine ⟨by rw [heap_alloc_old _ _ (by simp)]; exact heap_alloc_new w o1, ?_, bl_alloc (bl_alloc (Below.refl _ _) _) _, by simp⟩
  have := heap_alloc_new (w.alloc o1) o2
  simpa using this
theorem cells2F {w : World} {b : Nat} {x0 x1 : Value} {t : TypeId} (h : w.heap[b]? = some (.cells #[x0, x1] t)) : w.cell? ⟨b, 0, none⟩ = some x0 ∧ w.cell? ⟨b, 1, none⟩ = some x1 ∧ w.frozen? ⟨b, 0, none⟩ = false ∧ w.frozen? ⟨b, 1, none⟩ = false := by
  refine ⟨?_, ?_, ?_, ?_⟩ <;> simp [World.cell?, World.frozen?, h]
theorem results_ty {fn : Func} {tmps : Array Value} {W : World} {b K : Nat} {ty : TypeId} {cs : Array Value} (hr : fn.results = #[ResultVar.cell K ty]) (ht : tmps.getD K undef = .pointer (some ⟨b, 0, none⟩))
    (hl : (loadVar ty ⟨b, 0, none⟩).run Tryd.prog W = .ok (.agg cs) W) : (results fn tmps).run Tryd.prog W = .ok (.agg cs) W := by
  simp only [Array.getD_eq_getD_getElem?] at ht
  simp only [results, hr]
  simp [ht, asAddr, hl]
theorem size_tyF : (Tryd.prog.info? 30).map (·.size) = some 2 := by kernel_rfl
theorem load_tyF {W : World} {b : Nat} {cs : Array Value} {t : TypeId} {f : Nat × Nat} (h : W.heap[b]? = some (.cells cs t f)) (hs : cs.size = 2) : (loadVar 30 ⟨b, 0, none⟩).run Tryd.prog W = .ok (.agg cs) W :=
  run_loadVar_row W b t 30 cs f _ h Tryd.underlying30 rfl (by rw [hs]; exact size_tyF)
/-- A type's value. -/
abbrev tyV (t : Ty) : Value := .agg #[.bool t.sec, .int .i64 t.len]
set_option maxRecDepth 100000 in
set_option maxHeartbeats 8000000 in
theorem rtyp_any (s : List UInt8) (w : World) (hs : s.length ≤ 1000000) :
    Calls Tryd.prog 12 #[.string (bs s)] w fun e w' => e = .returned (tyV (rTy s)) ∧ Below w.heap.size w w' := by
  have hsz : (bs s).size = s.length := bs_size s
  have hnum := fun W => rnum_any (s.drop 3) W (by rw [List.length_drop]; omega)
  rw [← ext_drop s 3 s.length rfl] at hnum
  unfold NumPost at hnum
  obtain ⟨h1, h2, hb0, _⟩ := two_boxF w (.cells #[.bool false, .int .i64 0] 30) (.cells #[.bool false, .int .i64 0] 30)
  by_cases g2 : 2 < s.length
  rotate_left
  · have g2' : ¬ (2 : Int) < (s.length : Int) := by omega
    have g3' : ¬ (3 : Int) < (s.length : Int) := by omega
    have HE : Hid (rTy s = ⟨false, 0⟩) := by
      show _ = _
      unfold rTy
      rw [if_neg (by omega), decide_eq_false g2]
      rfl
    clear hnum
    go_enter Tryd.func12, Tryd.ntmps12
    go_wp2_with fail
    refine bodyPost_ret_by (results_ty rfl rfl (load_tyF h1 rfl)) rfl ?_
    exact ⟨by rw [HE.out], hb0⟩
  have g2' : (2 : Int) < (s.length : Int) := by omega
  have hx3 := ext_take s 3
  have hq : ((bs (s.take 3)).toList == [115, 101, 99]) = decide (s.take 3 = [115, 101, 99]) := by rw [bs_tl, Bool.eq_iff_iff]; simp
  by_cases g3 : 3 < s.length
  rotate_left
  · have g3' : ¬ (3 : Int) < (s.length : Int) := by omega
    have HE : Hid (rTy s = ⟨decide (s.take 3 = [115, 101, 99]), 0⟩) := by
      show _ = _
      unfold rTy
      rw [if_neg (by omega), decide_eq_true g2, Bool.true_and]
    clear hnum
    generalize decide (s.take 3 = [115, 101, 99]) = F at HE hq
    have hh := two_boxF w (.cells #[.bool F, .int .i64 0] 30) (.cells #[.bool F, .int .i64 0] 30)
    go_enter Tryd.func12, Tryd.ntmps12
    go_wp2_with fail
    refine bodyPost_ret_by (results_ty rfl rfl (load_tyF hh.1 rfl)) rfl ?_
    exact ⟨by rw [HE.out], hh.2.2.1⟩
  have g3' : (3 : Int) < (s.length : Int) := by omega
  have HE : Hid (rTy s = ⟨decide (s.take 3 = [115, 101, 99]), (numR (s.drop 3) : Int)⟩) := by
    show _ = _
    unfold rTy
    rw [if_pos g3, decide_eq_true g2, Bool.true_and]
  generalize numR (s.drop 3) = m at HE hnum
  generalize decide (s.take 3 = [115, 101, 99]) = F at HE hq
  have hh := two_boxF w (.cells #[.bool false, .int .i64 0] 30) (.cells #[.bool F, .int .i64 0] 30)
  have HH : Hid _ := hh
  clear hh h1 h2 hb0
  go_enter Tryd.func12, Tryd.ntmps12
  go_upto_region 2 with fail
  generalize World.alloc (World.alloc w _) _ = w1 at HH ⊢
  obtain ⟨h1, h2, hb, _⟩ := HH.out
  obtain ⟨c0, c1, u0, u1⟩ := cells2F h1
  obtain ⟨d0, d1, v0, v1⟩ := cells2F h2
  have HN : Hid _ := hnum w1
  clear h1 h2 hb hnum
  go_wp2_with (first | (go_at_call 19; refine Calls.mono HN.out ?_; rintro e w2 ⟨⟨bb, rfl⟩, hr10, hw2⟩; rw [hw2]; clear hw2))
  have hn : w.heap.size ≠ w.heap.size + 1 := by omega
  refine bodyPost_ret_by (results_ty rfl rfl (load_tyF (set2 ((setCell_other hn).trans HH.out.1)) rfl)) rfl ?_
  exact ⟨by rw [HE.out], bl_set (bl_set (bl_set HH.out.2.2.1 _ _ _ (Nat.le_succ _)) _ _ _ (Nat.le_refl _)) _ _ _ (Nat.le_refl _)⟩
end Go.Proofs.YtjkoededkhndkaaDoor
