/- CONTRACTS of the reference's Decimal (1 to 16), label, Line. -/
import Derived.Test.YtjkoededkhndkaaDoorFRRight
import Derived.Lib.ItoaNum
import Derived.Lib.Hide
namespace Go.Proofs.YtjkoededkhndkaaDoor
open Go.ChangeShapes Go.WideShapes Go.ChangeAt Go.RowKit

theorem bs_cat (a b : List UInt8) : bs a ++ bs b = bs (a ++ b) := by
  apply ByteArray.ext
  simp [bs, ByteArray.data_append]
def dg (i : Nat) : List UInt8 := if i < 10 then [UInt8.ofNat (48 + i)] else [49, UInt8.ofNat (38 + i)]
theorem dg_eq (i : Nat) (h2 : i ≤ 16) : Lib.decDigits i = dg i := by
  unfold dg
  split
  · rename_i h; rw [Lib.decDigits]; simp [h]
  · rename_i h
    rw [Lib.decDigits, dif_neg h, Lib.decDigits]
    have e1 : i / 10 = 1 := by omega
    have e2 : i % 10 = i - 10 := by omega
    rw [e1, e2, dif_pos (by decide)]
    have e3 : 48 + (i - 10) = 38 + i := by omega
    rw [e3]; rfl
theorem refLabel_any (b : Bool) (w : World) : Calls Tryd.prog 30 #[.bool b] w fun e w' => e = .returned (.string (bs (lab b))) ∧ w' = w := by
  cases b <;> go_enter Tryd.func30, Tryd.ntmps30
  all_goals go_wp2
  all_goals go_ret
  all_goals exact ⟨rfl, rfl⟩
theorem conv_one (w : World) (b : UInt8) (z : Int) (hz : (b.toNat : Int) = z) : (convert 42 9 (.slice (some ⟨w.heap.size, 0, none⟩) 1 1)).run Tryd.prog (w.alloc (.cells #[.int .u8 z] 5)) = .ok (.string (bs [b])) (w.alloc (.cells #[.int .u8 z] 5)) := by
  subst hz
  refine run_convert_bytes_back (P := Tryd.prog) _ 42 9 5 ⟨w.heap.size, 0, none⟩ 1 [b] Tryd.underlying42 Tryd.underlying5 Tryd.underlying9 fun j hj => ?_
  have : j = 0 := by simp at hj; omega
  subst this
  have h := heap_alloc_new w (.cells #[.int .u8 b.toNat] 5)
  have e : (⟨w.heap.size, 0, none⟩ : Addr).add 0 = ⟨w.heap.size, 0, none⟩ := rfl
  rw [e]
  simp only [World.cell?, h]
  rfl
theorem dig_nat (m : Nat) (h : m < 10) : ((UInt8.ofNat (48 + m)).toNat : Int) = 48 + (m : Int) := by
  rw [UInt8.toNat_ofNat']; omega
theorem dig_mod (m : Nat) : ((UInt8.ofNat (48 + m % 10)).toNat : Int) = 48 + (m : Int) % 10 := by
  rw [UInt8.toNat_ofNat']; omega
theorem dec_small (m : Nat) (h : m < 10) : Lib.decDigits m = [UInt8.ofNat (48 + m)] := by rw [Lib.decDigits]; simp [h]
theorem dec_step (m : Nat) (h : ¬ m < 10) : Lib.decDigits m = Lib.decDigits (m / 10) ++ [UInt8.ofNat (48 + m % 10)] := by rw [Lib.decDigits, dif_neg h]
theorem cat_to {a b c : List UInt8} (h : a.length + b.length ≤ 9000000000) (e : c = a ++ b) : (bs a).size + (bs b).size ≤ 9223372036854775807 ∧ bs a ++ bs b = bs c := by
  subst e
  exact ⟨by rw [bs_size, bs_size]; omega, bs_cat a b⟩
theorem cat_lit {a b c : List UInt8} (d : Array UInt8) (n : Nat) (hd : d.toList = b) (hn : b.length = n) (h : a.length + b.length ≤ 9000000000) (e : c = a ++ b) : (bs a).size + n ≤ 9223372036854775807 ∧ bs a ++ ⟨d⟩ = bs c := by
  subst hn
  have : (⟨d⟩ : ByteArray) = bs b := by rw [← hd]; rfl
  rw [this]; exact ⟨by rw [bs_size]; omega, (cat_to h e).2⟩
theorem ret_str {a b : List UInt8} (h : a = b) : Ending.returned (.string (bs a)) = .returned (.string (bs b)) := by rw [h]
set_option maxRecDepth 100000 in
set_option maxHeartbeats 1000000 in
theorem decimal_any (i : Nat) (h2 : i ≤ 4294967295) (w : World) : Calls Tryd.prog 31 #[.int .i64 i] w fun e w' => e = .returned (.string (bs (Lib.decDigits i))) ∧ Below w.heap.size w w' := by
  have hne : ¬ (i : Int) < 0 := by omega
  go_enter Tryd.func31, Tryd.ntmps31
  go_wp2_with fail
  go_loopw [0, 3] (fun n s wr => ∃ (m : Nat) (t : List UInt8), n = .int .i64 m ∧ s = .string (bs t) ∧ Lib.decDigits i = Lib.decDigits m ++ t ∧ t.length + m ≤ 4294967295 ∧ Below w.heap.size w wr) (fun n _ _ => (intOf n).toNat)
  case atStart => exact ⟨i, [], rfl, rfl, by simp, by simpa using h2, Below.refl _ _⟩
  case round =>
    obtain ⟨m, t, rfl, rfl, hd, hm, hb⟩ := hrel
    have HD : Hid (Lib.decDigits i = Lib.decDigits m ++ t) := hd
    have HB : Hid (Below w.heap.size w wr) := hb
    clear hd hb
    by_cases h10 : m < 10
    · have h10' : ¬ (10 : Int) ≤ (m : Int) := by omega
      have hcv := conv_one wr (UInt8.ofNat (48 + m)) (48 + (m : Int)) (dig_nat m h10)
      obtain ⟨r, hr⟩ : ∃ r, r = [UInt8.ofNat (48 + m)] ++ t := ⟨_, rfl⟩
      obtain ⟨hcaz, hca⟩ := cat_to (by simp; omega) hr
      have HR : Hid (r = Lib.decDigits i) := by show _ = _; rw [hr, HD.out, dec_small m h10]
      clear hr
      generalize UInt8.ofNat (48 + m) = d at hcv hca hcaz
      go_wp2_with fail
      go_ret
      exact ⟨ret_str HR.out, bl_alloc HB.out _⟩
    · have h10' : (10 : Int) ≤ (m : Int) := by omega
      have hcv := conv_one wr (UInt8.ofNat (48 + m % 10)) (48 + (m : Int) % 10) (dig_mod m)
      obtain ⟨r, hr⟩ : ∃ r, r = [UInt8.ofNat (48 + m % 10)] ++ t := ⟨_, rfl⟩
      obtain ⟨hcaz, hca⟩ := cat_to (by simp; omega) hr
      have HR : Hid (Lib.decDigits i = Lib.decDigits (m / 10) ++ r) := by show _ = _; rw [HD.out, dec_step m h10, hr, List.append_assoc]
      have HLE : Hid (r.length = t.length + 1) := by show _ = _; rw [hr]; simp
      clear hr
      generalize UInt8.ofNat (48 + m % 10) = d at hcv hca hcaz
      go_wp2_with fail
      go_roundw
      case rel => exact ⟨m / 10, r, by go_num, rfl, HR.out, by rw [HLE.out]; omega, bl_alloc HB.out _⟩
      case measure => simp [intOf]; omega

theorem dec_len (n : Nat) (h : n ≤ 16) : (Lib.decDigits n).length ≤ 2 := by rw [dg_eq n h]; unfold dg; split <;> simp
theorem lab_3 (b : Bool) : (lab b).length = 3 := by cases b <;> rfl
set_option maxRecDepth 100000 in
set_option maxHeartbeats 2000000 in
theorem refLine_any {S : Nat → Prop} (x : Sg) (a : Option Addr) (c : Nat) (w : World) (hr : kTy.row w S a x.ps) (hn : x.name.length ≤ 100000000) (hp : x.ps.length ≤ 1000000) (hok : x.ps.all tyOk = true) :
    Calls Tryd.prog 21 #[.agg #[.string (bs x.name), .slice a x.ps.length c, .bool x.sec]] w fun e w' => e = .returned (.string (bs (lineT x))) ∧ Below w.heap.size w w' := by
  obtain ⟨nm, ps, sc⟩ := x
  simp only at hr hp hok hn ⊢
  have HOK : Hid (∀ t ∈ ps, tyOk t = true) := List.all_eq_true.1 hok
  have HL : Hid (lineT ⟨nm, ps, sc⟩ = nm ++ ps.flatMap tyT ++ endT sc) := rfl
  clear hok
  have hres0 : (w.alloc (.cells #[.string (bs nm), .slice a ps.length c, .bool sc] 33)).heap[w.heap.size]? = some (.cells #[.string (bs nm), .slice a ps.length c, .bool sc] 33) := heap_alloc_new w _
  have HR0 : Hid _ := hres0
  clear hres0
  go_enter Tryd.func21, Tryd.ntmps21
  go_wp2_with fail
  go_loopw [3, 4] (fun s i wr => ∃ (k : Nat) (acc : List UInt8), k ≤ ps.length ∧ i = .int .i64 k ∧ s = .string (bs acc) ∧ acc = nm ++ (ps.take k).flatMap tyT ∧ acc.length ≤ 100000000 + 6 * k ∧ Below (w.heap.size + 1) (w.alloc (.cells #[.string (bs nm), .slice a ps.length c, .bool sc] 33)) wr) (fun _ i _ => ps.length - (intOf i).toNat)
  case atStart => exact ⟨0, nm, Nat.zero_le _, rfl, rfl, by simp, by omega, Below.refl _ _⟩
  case round =>
    obtain ⟨k, acc, hk, rfl, rfl, hacc, hal, hb⟩ := hrel
    have HAC : Hid (acc = nm ++ (ps.take k).flatMap tyT) := hacc
    have HB : Hid (Below (w.heap.size + 1) (w.alloc (.cells #[.string (bs nm), .slice a ps.length c, .bool sc] 33)) wr) := hb
    have HBW : Hid (Below w.heap.size w wr) := bl_then (bl_alloc (Below.refl _ _) _) (by simpa using hb)
    have hres : wr.heap[w.heap.size]? = some (.cells #[.string (bs nm), .slice a ps.length c, .bool sc] 33) := by rw [hb.block _ (by omega)]; exact HR0.out
    obtain ⟨c0, c1, c2, f0, f1, f2⟩ := cells3 hres
    have hlt0 : w.heap.size < wr.heap.size := lt_of_some hres
    clear hres hb hacc
    by_cases hlt : k < ps.length
    · obtain ⟨b, o, rfl, hSb, hbl, t1, t2⟩ := ty_at hr k hlt
      have e1 := (HBW.out.cell (p := ⟨b, o + k * 2, none⟩) hbl).trans t1
      have e2 := (HBW.out.cell (p := ⟨b, o + k * 2 + 1, none⟩) hbl).trans t2
      have hk0 : (0 : Int) ≤ (k : Int) := by omega
      have hk1 : (k : Int) < (ps.length : Int) := by omega
      have hty := HOK.out _ (List.getElem_mem hlt)
      simp only [tyOk, Bool.and_eq_true, decide_eq_true_eq] at hty
      have HF : Hid ((ps.take (k + 1)).flatMap tyT = (ps.take k).flatMap tyT ++ tyT ps[k]) := by
        show _ = _
        rw [List.take_add_one, List.getElem?_eq_getElem hlt, List.flatMap_append]; simp
      have HT : Hid (tyT ps[k] = 32 :: lab ps[k].sec ++ (if 0 < ps[k].len then Lib.decDigits ps[k].len.toNat else [])) := rfl
      have h3 := lab_3 ps[k].sec
      clear t1 t2
      obtain ⟨a1, ha1⟩ : ∃ r, r = acc ++ [32] := ⟨_, rfl⟩
      have hl1 : a1.length = acc.length + 1 := by rw [ha1]; simp
      obtain ⟨g1z, g1⟩ := cat_lit #[32] 1 rfl rfl (by simp; omega) ha1
      obtain ⟨a2, ha2⟩ : ∃ r, r = a1 ++ lab ps[k].sec := ⟨_, rfl⟩
      have hl2 : a2.length = acc.length + 4 := by rw [ha2, List.length_append, h3]; omega
      obtain ⟨g2z, g2⟩ := cat_to (by omega) ha2
      have hlb := refLabel_any ps[k].sec
      by_cases hz : 0 < ps[k].len
      · have hde : Calls Tryd.prog 31 #[.int .i64 ps[k].len] wr fun e w' => e = .returned (.string (bs (Lib.decDigits ps[k].len.toNat))) ∧ Below wr.heap.size wr w' := by
          have := decimal_any ps[k].len.toNat (by omega) wr
          rwa [Int.toNat_of_nonneg (by omega)] at this
        have hdl := dec_len ps[k].len.toNat (by omega)
        obtain ⟨a3, ha3⟩ : ∃ r, r = a2 ++ Lib.decDigits ps[k].len.toNat := ⟨_, rfl⟩
        obtain ⟨g3z, g3⟩ := cat_to (by omega) ha3
        have HL3 : Hid (a3.length ≤ acc.length + 6) := by show _ ≤ _; rw [ha3, List.length_append]; omega
        have HR : Hid (a3 = nm ++ (ps.take (k + 1)).flatMap tyT) := by
          show _ = _
          rw [ha3, ha2, ha1, HF.out, HT.out, if_pos hz, HAC.out]; simp
        clear hty ha1 ha2 ha3 hl1 hl2 hdl h3
        generalize Lib.decDigits ps[k].len.toNat = dd at hde g3 g3z
        generalize lab ps[k].sec = ll at g2 g2z hlb
        go_wp2_with (first | (go_at_call 30; refine (hlb _).mono ?_; rintro e w2 ⟨rfl, hq⟩; have hq' := hq.symm; subst hq') | (go_at_call 31; refine hde.mono ?_; rintro e w3 ⟨rfl, hb3⟩))
        go_roundw
        case rel => exact ⟨k + 1, a3, by omega, by go_num, rfl, HR.out, by have := HL3.out; omega, HB.out.trans (hb3.mono (by omega))⟩
        case measure => simp [intOf]; omega
      · have HR : Hid (a2 = nm ++ (ps.take (k + 1)).flatMap tyT) := by
          show _ = _
          rw [ha2, ha1, HF.out, HT.out, if_neg hz, HAC.out]; simp
        have hz' : ¬ (0 : Int) < ps[k].len := hz
        have HL3 : Hid (a2.length = acc.length + 4) := hl2
        clear hty ha1 ha2 hl1 hl2 h3
        generalize lab ps[k].sec = ll at g2 g2z hlb
        go_wp2_with (first | (go_at_call 30; refine (hlb _).mono ?_; rintro e w2 ⟨rfl, hq⟩; have hq' := hq.symm; subst hq'))
        go_roundw
        case rel => exact ⟨k + 1, a2, by omega, by go_num, rfl, HR.out, by rw [HL3.out]; omega, HB.out⟩
        case measure => simp [intOf]; omega
    · have hkl : ps.take k = ps := List.take_of_length_le (by omega)
      have HKL : Hid (ps.take k = ps) := hkl
      have h3 := lab_3 sc
      have hlb := refLabel_any sc
      obtain ⟨a1, ha1⟩ : ∃ r, r = acc ++ [32, 58, 32] := ⟨_, rfl⟩
      have hl1 : a1.length = acc.length + 3 := by rw [ha1]; simp
      obtain ⟨g1z, g1⟩ := cat_lit #[32, 58, 32] 3 rfl rfl (by simp; omega) ha1
      obtain ⟨a2, ha2⟩ : ∃ r, r = a1 ++ lab sc := ⟨_, rfl⟩
      have hl2 : a2.length = acc.length + 6 := by rw [ha2, List.length_append, h3]; omega
      obtain ⟨g2z, g2⟩ := cat_to (by omega) ha2
      obtain ⟨a3, ha3⟩ : ∃ r, r = a2 ++ [10] := ⟨_, rfl⟩
      obtain ⟨g3z, g3⟩ := cat_lit #[10] 1 rfl rfl (by simp; omega) ha3
      have HR : Hid (a3 = lineT ⟨nm, ps, sc⟩) := by
        show _ = _
        rw [HL.out, ha3, ha2, ha1, HAC.out, HKL.out]; simp [endT]
      clear ha1 ha2 ha3 hl1 hl2 hkl h3
      generalize lab sc = ll at g2 g2z hlb
      go_wp2_with (first | (go_at_call 30; refine (hlb _).mono ?_; rintro e w2 ⟨rfl, hq⟩; have hq' := hq.symm; subst hq'))
      go_ret
      exact ⟨ret_str HR.out, HBW.out⟩
end Go.Proofs.YtjkoededkhndkaaDoor
