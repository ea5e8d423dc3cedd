/- CONTRACT of mayBe. -/
import Derived.Test.YtlagadofiahijaaDoorFLib
namespace Go.Proofs.YtlagadofiahijaaDoor
open Go.ChangeShapes Go.WideShapes Go.ChangeAt Go.RowKit Go.Shelf

theorem cut_bs (b : UInt8) (l : List UInt8) {w : World} {e : Ending} {w' : World} (h : e = .returned (.tuple #[.string ⟨(Lib.cut (bs l).data.toList [b]).1.toArray⟩, .string ⟨(Lib.cut (bs l).data.toList [b]).2.1.toArray⟩, .bool (Lib.cut (bs l).data.toList [b]).2.2]) ∧ ∃ n, w' = w.drewN n) :
    ∃ z, e = .returned (.tuple #[.string (bs (cutB b l).1), .string (bs (cutB b l).2), .bool z]) ∧ ∃ n, w' = w.drewN n := by
  obtain ⟨h1, h2⟩ := h
  rw [bs_list, (cutB_lib b l).1, (cutB_lib b l).2] at h1
  exact ⟨_, h1, h2⟩
/-- strings.Cut at a byte. -/
theorem cut_any {B : Nat} (b : UInt8) (l : List UInt8) (w : World) (hl : l.length ≤ 1000000000) (hg : Glob B w) :
    Calls Tryd.prog 20 #[.string (bs l), .string ⟨#[b]⟩] w fun e w' => ∃ z, e = .returned (.tuple #[.string (bs (cutB b l).1), .string (bs (cutB b l).2), .bool z]) ∧ ∃ n, w' = w.drewN n := by
  obtain ⟨m, hm⟩ := hg.maxl
  exact (Any.strings_Cut Tryd.laysCut (bs l) ⟨#[b]⟩ m w (by rw [bs_size]; omega) hm).mono fun e w' h => cut_bs b l h
theorem name_bs (l : List UInt8) (w : World) : Calls Tryd.prog 21 #[.string (bs l)] w fun e w' => e = .returned (.bool (isName l)) ∧ w' = w := by
  have := name_any (bs l) w
  rw [bs_list] at this
  exact this
theorem Glob.alloc {B : Nat} {w : World} (h : Glob B w) (o : Obj) : Glob B (w.alloc o) := h.below ((Below.refl _ _).alloc (Nat.le_refl _) o)

/-- What all say from a place on. -/
theorem all_drop (f : Ty → Bool) (l : List Ty) (k : Nat) (hk : k < l.length) : (l.drop k).all f = (f l[k] && (l.drop (k + 1)).all f) := by
  rw [List.drop_eq_getElem_cons hk, List.all_cons]

set_option maxRecDepth 100000 in
set_option maxHeartbeats 1000000 in
theorem mayBe_any {B : Nat} {S : Nat → Prop} (x : Sg) (a : Option Addr) (c : Nat) (w : World) (hr : kTy.row w S a x.ps) (hn : x.name.length ≤ 1000000000) (hg : Glob B w) :
    Calls Tryd.prog 17 #[.agg #[.string (bs x.name), .slice a x.ps.length c, .bool x.sec]] w fun e w' => e = .returned (.bool (mayB x)) ∧ Below w.heap.size w w' := by
  obtain ⟨nm, ps, sc⟩ := x
  simp only at hr hn ⊢
  have hc := cut_any 46 nm (w.alloc (.cells #[.string (bs nm), .slice a ps.length c, .bool sc] 33)) hn (hg.alloc _)
  have HM : Hid (mayB ⟨nm, ps, sc⟩ = (isName (cutB 46 nm).1 && (isName (cutB 46 nm).2 && (decide (ps.length ≤ 6) && ps.all tyOk)))) := rfl
  have hx := name_bs (cutB 46 nm).1
  have hy := name_bs (cutB 46 nm).2
  generalize (cutB 46 nm).1 = x at hc HM hx
  generalize (cutB 46 nm).2 = y at hc HM hy
  have hcl := fun W : World => hx W
  rcases nx : isName x with _ | _ <;> rw [nx] at hx HM <;> clear hcl
  · clear hy
    go_enter Tryd.func17, Tryd.ntmps17
    go_wp2_with (first | (go_at_call 20; refine hc.mono ?_; rintro e w1 ⟨z, rfl, n, hq1⟩) | (go_at_call 21; refine (hx _).mono ?_; rintro e w2 ⟨rfl, hq⟩; have hq' := hq.symm; subst hq'))
    go_ret
    exact ⟨ret_bool (by rw [HM.out]; rfl), by exact bl_then (bl_alloc (Below.refl _ _) _) (drewN_below _ _)⟩
  · rcases ny : isName y with _ | _ <;> rw [ny] at hy HM
    · go_enter Tryd.func17, Tryd.ntmps17
      go_wp2_with (first | (go_at_call 20; refine hc.mono ?_; rintro e w1 ⟨z, rfl, n, hq1⟩) | (go_at_call_of 21 (Value.string (bs x)); refine (hx _).mono ?_; rintro e w2 ⟨rfl, hq⟩; have hq' := hq.symm; subst hq') | (go_at_call_of 21 (Value.string (bs y)); refine (hy _).mono ?_; rintro e w3 ⟨rfl, hq⟩; have hq' := hq.symm; subst hq'))
      go_ret
      exact ⟨ret_bool (by rw [HM.out]; rfl), by exact bl_then (bl_alloc (Below.refl _ _) _) (drewN_below _ _)⟩
    · by_cases h6 : 6 < ps.length
      · have HM2 : Hid (mayB ⟨nm, ps, sc⟩ = false) := by show _ = _; rw [HM.out]; simp; omega
        have h6' : (6 : Int) < (ps.length : Int) := by omega
        go_enter Tryd.func17, Tryd.ntmps17
        go_wp2_with (first | (go_at_call 20; refine hc.mono ?_; rintro e w1 ⟨z, rfl, n, hq1⟩; have hce : ∀ i, w1.cell? ⟨w.heap.size, i, none⟩ = (w.alloc (.cells #[.string (bs nm), .slice a ps.length c, .bool sc] 33)).cell? ⟨w.heap.size, i, none⟩ := (by rw [hq1]; exact fun _ => rfl)) | (go_at_call_of 21 (Value.string (bs x)); refine (hx _).mono ?_; rintro e w2 ⟨rfl, hq⟩; have hq' := hq.symm; subst hq') | (go_at_call_of 21 (Value.string (bs y)); refine (hy _).mono ?_; rintro e w3 ⟨rfl, hq⟩; have hq' := hq.symm; subst hq'))
        go_ret
        exact ⟨ret_bool (by rw [HM2.out]), by exact bl_then (bl_alloc (Below.refl _ _) _) (drewN_below _ _)⟩
      · have HM2 : Hid (mayB ⟨nm, ps, sc⟩ = ps.all tyOk) := by show _ = _; rw [HM.out]; simp; omega
        have h6' : ¬ (6 : Int) < (ps.length : Int) := by omega
        go_enter Tryd.func17, Tryd.ntmps17
        go_wp2_with (first | (go_at_call 20; refine hc.mono ?_; rintro e w1 ⟨z, rfl, n, hq1⟩; have hce : ∀ i, w1.cell? ⟨w.heap.size, i, none⟩ = (w.alloc (.cells #[.string (bs nm), .slice a ps.length c, .bool sc] 33)).cell? ⟨w.heap.size, i, none⟩ := (by rw [hq1]; exact fun _ => rfl)) | (go_at_call_of 21 (Value.string (bs x)); refine (hx _).mono ?_; rintro e w2 ⟨rfl, hq⟩; have hq' := hq.symm; subst hq') | (go_at_call_of 21 (Value.string (bs y)); refine (hy _).mono ?_; rintro e w3 ⟨rfl, hq⟩; have hq' := hq.symm; subst hq'))
        have HW : Hid (Below w.heap.size w ((w.alloc (.cells #[.string (bs nm), .slice a ps.length c, .bool sc] 33)).drewN n)) := bl_then (bl_alloc (Below.refl _ _) _) (drewN_below _ _)
        clear hq1 hce hc hx hy
        go_loopw [32] (fun i wr => ∃ k : Nat, k ≤ ps.length ∧ i = .int .i64 k ∧ ps.all tyOk = (ps.drop k).all tyOk ∧ Below w.heap.size w wr) (fun i _ => ps.length - (intOf i).toNat)
        case atStart => exact ⟨0, Nat.zero_le _, rfl, rfl, HW.out⟩
        case round =>
          obtain ⟨k, hk, rfl, hq, hbl⟩ := hrel
          have HQ : Hid (ps.all tyOk = (ps.drop k).all tyOk) := hq
          clear hq
          have HB : Hid (Below w.heap.size w wr) := hbl
          by_cases hlt : k < ps.length
          · obtain ⟨b, o, rfl, hSb, hb, h0, h1⟩ := ty_at hr k hlt
            have e0 := (hbl.cell (p := ⟨b, o + k * 2, none⟩) hb).trans h0
            have e1 := (hbl.cell (p := ⟨b, o + k * 2 + 1, none⟩) hb).trans h1
            have HD : Hid ((ps.drop k).all tyOk = (tyOk ps[k] && (ps.drop (k + 1)).all tyOk)) := all_drop tyOk ps k hlt
            have HT : Hid (tyOk ps[k] = (decide (0 ≤ ps[k].len) && decide (ps[k].len ≤ 16))) := rfl
            clear h0 h1 hbl
            by_cases hneg : ps[k].len < 0
            · go_wp2_with fail
              go_ret
              exact ⟨ret_bool (by rw [HM2.out, HQ.out, HD.out, HT.out]; simp; omega), bl_alloc HB.out _⟩
            · by_cases hbig : 16 < ps[k].len
              · go_wp2_with fail
                go_ret
                exact ⟨ret_bool (by rw [HM2.out, HQ.out, HD.out, HT.out]; simp; omega), bl_alloc HB.out _⟩
              · go_wp2_with fail
                go_roundw
                case rel => exact ⟨k + 1, by omega, by go_num, by rw [HQ.out, HD.out, HT.out]; simp; omega, bl_alloc HB.out _⟩
                case measure => simp [intOf]; omega
          · clear hbl
            go_wp2_with fail
            go_ret
            exact ⟨ret_bool (by rw [HM2.out, HQ.out, List.drop_of_length_le (by omega)]; rfl), HB.out⟩
end Go.Proofs.YtlagadofiahijaaDoor
