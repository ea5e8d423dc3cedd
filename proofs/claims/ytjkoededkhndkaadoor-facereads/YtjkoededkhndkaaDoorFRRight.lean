/- CONTRACT of the reference's Right. -/
import Derived.Test.YtjkoededkhndkaaDoorFRName
import Derived.Test.YtjkoededkhndkaaDoorFRow
import Derived.Laws.DeepStrings4
namespace Go.Proofs.YtjkoededkhndkaaDoor
open Go.ChangeShapes Go.WideShapes Go.ChangeAt Go.RowKit

/-- Where the first point stands, of the first k bytes. -/
def Dot (l : List UInt8) (k : Nat) (d : Int) : Prop := (d = -1 ∧ 46 ∉ l.take k) ∨ ∃ n : Nat, d = n ∧ n < k ∧ n < l.length ∧ l[n]? = some 46 ∧ 46 ∉ l.take n
theorem Dot.start (l : List UInt8) : Dot l 0 (-1) := .inl ⟨rfl, by simp⟩
theorem not_take {l : List UInt8} {k : Nat} (hk : k < l.length) (h : 46 ∉ l.take k) (hc : l[k] ≠ 46) : 46 ∉ l.take (k + 1) := by
  rw [List.take_succ_eq_append_getElem hk, List.mem_append]
  rintro (h1 | h1)
  · exact h h1
  · simp at h1; exact hc h1.symm
theorem Dot.is {l : List UInt8} {k : Nat} {d : Int} (hk : k < l.length) (h : Dot l k d) (hd : d < 0) (hc : l[k] = 46) : Dot l (k + 1) k := by
  rcases h with ⟨rfl, h⟩ | ⟨n, rfl, _⟩
  · exact .inr ⟨k, rfl, by omega, hk, by rw [List.getElem?_eq_getElem hk, hc], h⟩
  · omega
theorem Dot.isnt {l : List UInt8} {k : Nat} {d : Int} (hk : k < l.length) (h : Dot l k d) (hc : ¬ (d < 0 ∧ l[k] = 46)) : Dot l (k + 1) d := by
  rcases h with ⟨rfl, h⟩ | ⟨n, rfl, h1, h2⟩
  · exact .inl ⟨rfl, not_take hk h fun e => hc ⟨by omega, e⟩⟩
  · exact .inr ⟨n, rfl, by omega, h2⟩
theorem Dot.none {l : List UInt8} {d : Int} (h : Dot l l.length d) (hd : d < 0) : cutB 46 l = (l, []) := by
  rcases h with ⟨rfl, h⟩ | ⟨n, rfl, _⟩
  · rw [List.take_length] at h; exact cutB_none h
  · omega
theorem Dot.some {l : List UInt8} {n : Nat} (h : Dot l l.length n) : n < l.length ∧ cutB 46 l = (l.take n, l.drop (n + 1)) := by
  rcases h with ⟨h, _⟩ | ⟨m, h, _, h2, h3, h4⟩
  · omega
  · have : n = m := by omega
    subst this
    refine ⟨h2, ?_⟩
    have e : l = l.take n ++ 46 :: l.drop (n + 1) := by
      have hg : l[n] = 46 := by rw [List.getElem?_eq_getElem h2] at h3; exact Option.some.inj h3
      rw [← hg, ← List.drop_eq_getElem_cons h2, List.take_append_drop]
    calc cutB 46 l = cutB 46 (l.take n ++ 46 :: l.drop (n + 1)) := by rw [← e]
      _ = _ := cutB_some h4
theorem ext_take (l : List UInt8) (n : Nat) : (bs l).extract 0 n = bs (l.take n) := by
  have h : ((bs l).extract 0 n).data.toList = l.take n := by
    rw [ByteArray.data_extract, Array.toList_extract, List.extract_eq_take_drop, bs_list]; simp
  rw [← bs_of ((bs l).extract 0 n), h]
theorem ext_drop (l : List UInt8) (n m : Nat) (hm : m = l.length) : (bs l).extract n m = bs (l.drop n) := by
  subst hm
  have h : ((bs l).extract n l.length).data.toList = l.drop n := by
    rw [ByteArray.data_extract, Array.toList_extract, List.extract_eq_take_drop, bs_list, List.take_of_length_le (by simp)]
  rw [← bs_of ((bs l).extract n l.length), h]
theorem refName_bs (l : List UInt8) (w : World) : Calls Tryd.prog 29 #[.string (bs l)] w fun e w' => e = .returned (.bool (isName l)) ∧ w' = w := by
  have := refName_any (bs l) w
  rw [bs_list] at this
  exact this
theorem bs_at (l : List UInt8) (k : Nat) (h : k < (bs l).size) : (bs l)[k] = l[k]'(by rw [bs_size] at h; exact h) := by
  have : (bs l)[k] = (bs l).data.toList[k]'(by simpa using h) := rfl
  rw [this]; simp [bs_list]

set_option maxRecDepth 100000 in
set_option maxHeartbeats 2000000 in
theorem right_any {S : Nat → Prop} (x : Sg) (a : Option Addr) (c : Nat) (w : World) (hr : kTy.row w S a x.ps) (hn : x.name.length ≤ 1000000000) (hp : x.ps.length ≤ 1000000000) :
    Calls Tryd.prog 20 #[.agg #[.string (bs x.name), .slice a x.ps.length c, .bool x.sec]] w fun e w' => e = .returned (.bool (mayB x)) ∧ Below w.heap.size w w' := by
  obtain ⟨nm, ps, sc⟩ := x
  simp only at hr hn hp ⊢
  have HM : Hid (mayB ⟨nm, ps, sc⟩ = (isName (cutB 46 nm).1 && (isName (cutB 46 nm).2 && (decide (ps.length ≤ 6) && ps.all tyOk)))) := rfl
  have hsz := bs_size nm
  have HB : Hid (Below w.heap.size w (w.alloc (.cells #[.string (bs nm), .slice a ps.length c, .bool sc] 33))) := bl_alloc (Below.refl _ _) _
  have hr1 : kTy.row (w.alloc (.cells #[.string (bs nm), .slice a ps.length c, .bool sc] 33)) S a ps := kTy.row_mono (by decide) hr fun i hi hlt => ⟨hi, heap_alloc_old w _ hlt⟩
  go_enter Tryd.func20, Tryd.ntmps20
  go_wp2_with fail
  go_loop [3, 4] (fun d i => ∃ (k : Nat) (z : Int), k ≤ nm.length ∧ i = .int .i64 k ∧ d = .int .i64 z ∧ Dot nm k z) (fun _ i => nm.length - (intOf i).toNat)
  case atStart => exact ⟨0, -1, Nat.zero_le _, rfl, rfl, Dot.start nm⟩
  case round =>
    obtain ⟨k, z, hk, rfl, rfl, hD⟩ := hrel
    have HD : Hid (Dot nm k z) := hD
    clear hD
    by_cases hlt : k < nm.length
    · have hlt' : k < (bs nm).size := by omega
      have hat : (bs nm)[k] = nm[k] := bs_at nm k hlt'
      by_cases hc : nm[k] = 46
      · have hc' : (((bs nm)[k]).toNat : Int) = 46 := by rw [hat, hc]; rfl
        clear hat
        by_cases hz : z < 0
        · go_wp2_with fail
          go_round
          case rel => exact ⟨k + 1, k, by omega, by go_num, rfl, HD.out.is hlt hz hc⟩
          case measure => simp [intOf]; omega
        · go_wp2_with fail
          go_round
          case rel => exact ⟨k + 1, z, by omega, by go_num, rfl, HD.out.isnt hlt fun h => hz h.1⟩
          case measure => simp [intOf]; omega
      · have hc' : ¬ (((bs nm)[k]).toNat : Int) = 46 := by
          rw [hat]; intro e; apply hc
          apply UInt8.toNat_inj.1
          have : (46 : UInt8).toNat = 46 := rfl
          omega
        have hc'' : ((((bs nm)[k]).toNat : Int) == 46) = false := by simpa using hc'
        clear hat
        go_wp2_with fail
        go_round
        case rel => exact ⟨k + 1, z, by omega, by go_num, rfl, HD.out.isnt hlt fun h => hc h.2⟩
        case measure => simp [intOf]; omega
    · have hkl : k = nm.length := by omega
      subst hkl
      by_cases hz : z < 0
      · have HC : Hid (mayB ⟨nm, ps, sc⟩ = false) := by show _ = _; rw [HM.out, HD.out.none hz]; simp [isName]
        go_wp2_with fail
        go_ret
        exact ⟨ret_bool HC.out.symm, HB.out⟩
      · obtain ⟨n, rfl⟩ : ∃ n : Nat, z = n := ⟨z.toNat, by omega⟩
        obtain ⟨hnl, hcut⟩ := HD.out.some
        rw [hcut] at HM
        have hz' : ¬ (n : Int) < 0 := by omega
        have e1 := ext_take nm n
        have e2 := ext_drop nm (n + 1) nm.length rfl
        have hx := refName_bs (nm.take n)
        have hy := refName_bs (nm.drop (n + 1))
        clear hcut HD
        generalize nm.take n = x at HM e1 hx
        generalize nm.drop (n + 1) = y at HM e2 hy
        rcases nx : isName x with _ | _ <;> rw [nx] at hx HM
        · have HC : Hid (mayB ⟨nm, ps, sc⟩ = false) := by show _ = _; rw [HM.out]; simp
          go_wp2_with (first | (go_at_call_of 29 (Value.string (bs x)); refine (hx _).mono ?_; rintro e w2 ⟨rfl, hq⟩; have hq' := hq.symm; subst hq'))
          go_ret
          exact ⟨ret_bool HC.out.symm, HB.out⟩
        · rcases ny : isName y with _ | _ <;> rw [ny] at hy HM
          · have HC : Hid (mayB ⟨nm, ps, sc⟩ = false) := by show _ = _; rw [HM.out]; simp
            go_wp2_with (first | (go_at_call_of 29 (Value.string (bs x)); refine (hx _).mono ?_; rintro e w2 ⟨rfl, hq⟩; have hq' := hq.symm; subst hq') | (go_at_call_of 29 (Value.string (bs y)); refine (hy _).mono ?_; rintro e w3 ⟨rfl, hq⟩; have hq' := hq.symm; subst hq'))
            go_ret
            exact ⟨ret_bool HC.out.symm, HB.out⟩
          · by_cases h6 : 6 < ps.length
            · have h6' : (6 : Int) < (ps.length : Int) := by omega
              have HC : Hid (mayB ⟨nm, ps, sc⟩ = false) := by show _ = _; rw [HM.out]; simp; omega
              go_wp2_with (first | (go_at_call_of 29 (Value.string (bs x)); refine (hx _).mono ?_; rintro e w2 ⟨rfl, hq⟩; have hq' := hq.symm; subst hq') | (go_at_call_of 29 (Value.string (bs y)); refine (hy _).mono ?_; rintro e w3 ⟨rfl, hq⟩; have hq' := hq.symm; subst hq'))
              go_ret
              exact ⟨ret_bool HC.out.symm, HB.out⟩
            · have h6' : ¬ (6 : Int) < (ps.length : Int) := by omega
              have HC : Hid (mayB ⟨nm, ps, sc⟩ = ps.all tyOk) := by show _ = _; rw [HM.out]; simp; omega
              go_wp2_with (first | (go_at_call_of 29 (Value.string (bs x)); refine (hx _).mono ?_; rintro e w2 ⟨rfl, hq⟩; have hq' := hq.symm; subst hq') | (go_at_call_of 29 (Value.string (bs y)); refine (hy _).mono ?_; rintro e w3 ⟨rfl, hq⟩; have hq' := hq.symm; subst hq'))
              go_loop [5] (fun i => ∃ k : Nat, k ≤ ps.length ∧ i = .int .i64 k ∧ ps.all tyOk = (ps.drop k).all tyOk) (fun i => ps.length - (intOf i).toNat)
              case atStart => exact ⟨0, Nat.zero_le _, rfl, rfl⟩
              case round =>
                obtain ⟨k, hk, rfl, hq⟩ := hrel
                have HQ : Hid (ps.all tyOk = (ps.drop k).all tyOk) := hq
                clear hq
                by_cases hlt : k < ps.length
                · obtain ⟨b, o, rfl, hSb, hb, t1, t2⟩ := ty_at hr1 k hlt
                  have HA : Hid ((ps.drop k).all tyOk = (tyOk ps[k] && (ps.drop (k + 1)).all tyOk)) := by show _ = _; rw [List.drop_eq_getElem_cons hlt, List.all_cons]
                  have HT : Hid (tyOk ps[k] = (decide (0 ≤ ps[k].len) && decide (ps[k].len ≤ 16))) := rfl
                  have hk0 : (0 : Int) ≤ (k : Int) := by omega
                  have hk1 : (k : Int) < (ps.length : Int) := by omega
                  by_cases hlo : ps[k].len < 0
                  · go_wp2_with fail
                    go_ret
                    exact ⟨ret_bool (by rw [HC.out, HQ.out, HA.out, HT.out]; simp; omega), HB.out⟩
                  · by_cases hhi : 16 < ps[k].len
                    · go_wp2_with fail
                      go_ret
                      exact ⟨ret_bool (by rw [HC.out, HQ.out, HA.out, HT.out]; simp; omega), HB.out⟩
                    · go_wp2_with fail
                      go_round
                      case rel => exact ⟨k + 1, by omega, by go_num, by rw [HQ.out, HA.out, HT.out]; simp; omega⟩
                      case measure => simp [intOf]; omega
                · go_wp2_with fail
                  go_ret
                  exact ⟨ret_bool (by rw [HC.out, HQ.out, List.drop_of_length_le (by omega)]; rfl), HB.out⟩
end Go.Proofs.YtjkoededkhndkaaDoor
