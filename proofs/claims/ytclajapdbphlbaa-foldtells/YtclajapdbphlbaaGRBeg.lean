/- CONTRACT of the reference's begins. -/
import Derived.Test.YtclajapdbphlbaaGRefM
import Derived.Test.YtclajapdbphlbaaGFold
namespace Go.Proofs.Ytclajapdbphlbaa
open Go.ChangeShapes Go.WideShapes Go.ChangeAt Go.RowKit

theorem hit_drop (l : List Ir) (k m : Nat) (hk : k < l.length) : (l.drop k).any (fun x => hitB x m) = (hitB l[k] m || (l.drop (k + 1)).any fun x => hitB x m) := by
  rw [List.drop_eq_getElem_cons hk, List.any_cons]
set_option maxRecDepth 100000 in
set_option maxHeartbeats 2000000 in
theorem refBegins_any {S : Nat → Prop} (x : Co) (pa : Option Addr) (pc : Nat) (la : Option Addr) (lc : Nat) (k : Nat) (w : World) (h : kIr.row w S la x.l) (hl : x.l.length ≤ 1000000) (hk : k ≤ x.l.length) :
    Calls Try.prog 68 #[.agg #[.string (bs x.name), .slice pa x.ps.length pc, .int .i64 x.regs, .int .i64 x.cells, .slice la x.l.length lc], .int .i64 (k : Int)] w fun e w' => e = .returned (.bool (rBeg x.l k)) ∧ Below w.heap.size w w' := by
  have hx0 := heap_alloc_new w (coO x pa pc la lc)
  have hb0 := bl_alloc (Below.refl w.heap.size w) (coO x pa pc la lc)
  have HX : Hid _ := hx0
  have HB : Hid _ := hb0
  cases k with
  | zero =>
    clear hx0 hb0
    go_enter Try.func68, Try.ntmps68
    go_wp2
    go_ret
    exact ⟨rfl, HB.out⟩
  | succ k =>
    have hlt : k < x.l.length := by omega
    obtain ⟨b, o, ga, gc, rfl, _, hb, hia, _, _, _⟩ := ir_at h k hlt
    obtain ⟨e0, e1, e2, e3, e4, e5, e6, e7, e8⟩ := hia.keep (hb0.block b hb)
    have HQ : Hid (rBeg x.l (k + 1) = (endB x.l[k] || x.l.any fun x => hitB x (k + 1))) := by
      show _ = _
      rw [rBeg, List.getD_eq_getElem?_getD, List.getElem?_eq_getElem hlt]; rfl
    have HE : Hid (endB x.l[k] = (x.l[k].kind == 8 || (x.l[k].kind == 9 || x.l[k].kind == 10))) := rfl
    obtain ⟨k0, k1, k2, k3, k4⟩ := five hx0
    have hk0 : (0 : Int) ≤ (k : Int) := by omega
    have hk1 : (k : Int) < (x.l.length : Int) := by omega
    have hkc : (((k + 1 : Nat) : Int)) - 1 = (k : Int) := by omega
    have hkn : ((((k + 1 : Nat) : Int)) == 0) = false := by rw [beq_eq_false_iff_ne]; omega
    generalize hkk : (((k + 1 : Nat) : Int)) = kk at hkc hkn ⊢
    generalize x.l[k] = y at e0 HQ HE
    clear hx0 hb0 hia e1 e2 e3 e4 e5 e6 e7 e8
    by_cases h8 : y.kind = 8
    · have HT : Hid (rBeg x.l (k + 1) = true) := by show _ = _; rw [HQ.out, HE.out, h8]; rfl
      go_enter Try.func68, Try.ntmps68
      go_wp2
      go_ret
      exact ⟨ret_bool HT.out.symm, HB.out⟩
    by_cases h9 : y.kind = 9
    · have HT : Hid (rBeg x.l (k + 1) = true) := by show _ = _; rw [HQ.out, HE.out, h9]; rfl
      go_enter Try.func68, Try.ntmps68
      go_wp2
      go_ret
      exact ⟨ret_bool HT.out.symm, HB.out⟩
    by_cases h10 : y.kind = 10
    · have HT : Hid (rBeg x.l (k + 1) = true) := by show _ = _; rw [HQ.out, HE.out, h10]; rfl
      go_enter Try.func68, Try.ntmps68
      go_wp2
      go_ret
      exact ⟨ret_bool HT.out.symm, HB.out⟩
    have g8 : (y.kind == 8) = false := by simpa using h8
    have g9 : (y.kind == 9) = false := by simpa using h9
    have g10 : (y.kind == 10) = false := by simpa using h10
    have HD : Hid (rBeg x.l (k + 1) = x.l.any fun x => hitB x (k + 1)) := by show _ = _; rw [HQ.out, HE.out, g8, g9, g10]; rfl
    go_enter Try.func68, Try.ntmps68
    go_upto_region 7 with fail
    clear e0 g8 g9 g10 h8 h9 h10 k0 k1 k2 k3 k4
    generalize w.alloc _ = w1 at HX HB ⊢
    have hz1 := lt_of_some HX.out
    obtain ⟨k0, k1, k2, k3, k4⟩ := five HX.out
    go_loop [6] (fun i => ∃ m : Nat, m ≤ x.l.length ∧ i = .int .i64 m ∧ (x.l.any fun x => hitB x (k + 1)) = (x.l.drop m).any fun x => hitB x (k + 1)) (fun i => x.l.length - (intOf i).toNat)
    case atStart => exact ⟨0, Nat.zero_le _, rfl, rfl⟩
    case round =>
      obtain ⟨m, hm, rfl, hq⟩ := hrel
      have HQ2 : Hid _ := hq
      clear hq
      by_cases hmt : m < x.l.length
      · obtain ⟨b2, o2, _, _, eb, _, _, hi2, _, _, _⟩ := ir_at h m hmt
        have eb' : b = b2 ∧ o = o2 := by simpa using eb
        obtain ⟨rfl, rfl⟩ := eb'
        obtain ⟨d0, d1, d2, d3, d4, d5, d6, d7, d8⟩ := hi2.keep (HB.out.block b hb)
        have HDD : Hid _ := hit_drop x.l m (k + 1) hmt
        have HH : Hid (hitB x.l[m] (k + 1) = ((x.l[m].kind == 8 || x.l[m].kind == 9) && x.l[m].c == ((k + 1 : Nat) : Int))) := rfl
        generalize x.l[m] = z at d0 d5 HDD HH
        have hm0 : (0 : Int) ≤ (m : Int) := by omega
        have hm1 : (m : Int) < (x.l.length : Int) := by omega
        clear eb hi2 d1 d2 d3 d4 d6 d7 d8
        by_cases h89 : z.kind = 8 ∨ z.kind = 9
        · by_cases hc : z.c = kk
          · have HT : Hid (rBeg x.l (k + 1) = true) := by
              show _ = _
              rw [HD.out, HQ2.out, HDD.out, HH.out, hkk, hc]
              rcases h89 with h | h <;> simp [h]
            rcases h89 with h8 | h9
            · go_wp2_with fail
              go_ret
              exact ⟨ret_bool HT.out.symm, HB.out⟩
            · have g8 : (z.kind == 8) = false := by rw [h9]; rfl
              go_wp2_with fail
              go_ret
              exact ⟨ret_bool HT.out.symm, HB.out⟩
          · have hc' : (z.c == kk) = false := by simpa using hc
            have HN : Hid (hitB z (k + 1) = false) := by show _ = _; rw [HH.out, hkk, hc', Bool.and_false]
            rcases h89 with h8 | h9
            · go_wp2_with fail
              go_round
              case rel => exact ⟨m + 1, by omega, by go_num, by rw [HQ2.out, HDD.out, HN.out]; rfl⟩
              case measure => simp [intOf]; omega
            · have g8 : (z.kind == 8) = false := by rw [h9]; rfl
              go_wp2_with fail
              go_round
              case rel => exact ⟨m + 1, by omega, by go_num, by rw [HQ2.out, HDD.out, HN.out]; rfl⟩
              case measure => simp [intOf]; omega
        · have g8 : (z.kind == 8) = false := by simp; omega
          have g9 : (z.kind == 9) = false := by simp; omega
          have HN : Hid (hitB z (k + 1) = false) := by show _ = _; rw [HH.out, g8, g9]; rfl
          go_wp2_with fail
          go_round
          case rel => exact ⟨m + 1, by omega, by go_num, by rw [HQ2.out, HDD.out, HN.out]; rfl⟩
          case measure => simp [intOf]; omega
      · have HT : Hid (rBeg x.l (k + 1) = false) := by show _ = _; rw [HD.out, HQ2.out, List.drop_of_length_le (by omega)]; rfl
        go_wp2_with fail
        go_ret
        exact ⟨ret_bool HT.out.symm, HB.out⟩
end Go.Proofs.Ytclajapdbphlbaa
