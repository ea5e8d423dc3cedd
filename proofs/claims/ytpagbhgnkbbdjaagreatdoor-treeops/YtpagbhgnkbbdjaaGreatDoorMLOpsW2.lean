/- THE WALK of TreeOps. -/
import Derived.Test.YtpagbhgnkbbdjaaGreatDoorMLOpsW
namespace Go.Proofs.YtpagbhgnkbbdjaaGreatDoor
open Go.ChangeShapes Go.WideShapes Go.ChangeAt Go.RowKit

theorem sgn_facts (op : Int) (h : 1 ≤ op ∧ op ≤ 10) : ∃ sg, W.sgn op = bs sg ∧ wordB sg = true ∧ sg.length ≤ 100 ∧ opOf sg = op := by
  have : op = 1 ∨ op = 2 ∨ op = 3 ∨ op = 4 ∨ op = 5 ∨ op = 6 ∨ op = 7 ∨ op = 8 ∨ op = 9 ∨ op = 10 := by omega
  rcases this with rfl | rfl | rfl | rfl | rfl | rfl | rfl | rfl | rfl | rfl
  · exact ⟨[43], rfl, by decide, by decide, by decide⟩
  · exact ⟨[45], rfl, by decide, by decide, by decide⟩
  · exact ⟨[42], rfl, by decide, by decide, by decide⟩
  · exact ⟨[38], rfl, by decide, by decide, by decide⟩
  · exact ⟨[124], rfl, by decide, by decide, by decide⟩
  · exact ⟨[94], rfl, by decide, by decide, by decide⟩
  · exact ⟨[60, 60], rfl, by decide, by decide, by decide⟩
  · exact ⟨[62, 62], rfl, by decide, by decide, by decide⟩
  · exact ⟨[60], rfl, by decide, by decide, by decide⟩
  · exact ⟨[61, 61], rfl, by decide, by decide, by decide⟩
theorem cell_on {a b : World} {k o : Nat} {v : Value} (h : Below a.heap.size a b) (hc : a.cell? ⟨k, o, none⟩ = some v) : b.cell? ⟨k, o, none⟩ = some v := by
  rw [World.cell?_of_block (w := a) (h.block k (World.block_lt_of_cell? a _ hc))]; exact hc
theorem cats (sg n : List UInt8) (d : Array UInt8) (k : Nat) (hd : d.toList = n) (hk : n.length = k) (hl : sg.length ≤ 100) (hl' : k ≤ 10) : ∃ x1 x2 x3, (28 + (bs sg).size ≤ 9223372036854775807 ∧ (⟨#[40, 117, 110, 105, 116, 32, 97, 41, 32, 40, 102, 110, 32, 102, 32, 40, 41, 32, 112, 117, 98, 32, 40, 114, 101, 116, 32, 40]⟩ : ByteArray) ++ bs sg = bs x1) ∧ ((bs x1).size + 1 ≤ 9223372036854775807 ∧ bs x1 ++ ⟨#[32]⟩ = bs x2) ∧ ((bs x2).size + k ≤ 9223372036854775807 ∧ bs x2 ++ ⟨d⟩ = bs x3) ∧ ((bs x3).size + 5 ≤ 9223372036854775807 ∧ bs x3 ++ ⟨#[32, 120, 41, 41, 41]⟩ = bs (opsT sg n)) := by
  have h1 : (preT ++ sg).length ≤ 128 := by have : preT.length = 28 := rfl; rw [List.length_append]; omega
  have h2 : (preT ++ sg ++ [32]).length ≤ 129 := by rw [List.length_append, List.length_singleton]; omega
  have h3 : (preT ++ sg ++ [32] ++ n).length ≤ 139 := by rw [List.length_append]; omega
  exact ⟨preT ++ sg, preT ++ sg ++ [32], preT ++ sg ++ [32] ++ n, pre_cat sg hl, cat_ops #[32] 1 rfl rfl (by omega) (by omega) rfl, cat_ops d k hd hk (by omega) (by omega) rfl, cat_ops #[32, 120, 41, 41, 41] 5 rfl rfl (by omega) (by omega) (opsT_cat sg n)⟩
theorem cats2 (sl : List UInt8) (hl : sl.length ≤ 100) : ∃ x1, (28 + (bs sl).size ≤ 9223372036854775807 ∧ (⟨#[40, 117, 110, 105, 116, 32, 97, 41, 32, 40, 102, 110, 32, 102, 32, 40, 41, 32, 112, 117, 98, 32, 40, 114, 101, 116, 32, 40]⟩ : ByteArray) ++ bs sl = bs x1) ∧ ((bs x1).size + 7 ≤ 9223372036854775807 ∧ bs x1 ++ ⟨#[32, 49, 32, 120, 41, 41, 41]⟩ = bs (opsT sl [49])) := by
  have h1 : (preT ++ sl).length ≤ 128 := by have : preT.length = 28 := rfl; rw [List.length_append]; omega
  exact ⟨preT ++ sl, pre_cat sl hl, cat_ops #[32, 49, 32, 120, 41, 41, 41] 7 rfl rfl (by omega) (by omega) (by simp [opsT, sufT])⟩
theorem num_one : num [49] = some 1 := by decide
theorem num_big : num [52, 50, 57, 52, 57, 54, 55, 50, 57, 53] = some 4294967295 := by decide
section
set_option maxRecDepth 100000
set_option maxHeartbeats 16000000
theorem ops_10 {B : Nat} (op : Int) (sl : List UInt8) (w : World) (hg : Glob B w) (hs : Sh.Glob B w) (hop : 1 ≤ op ∧ op ≤ 10) : Calls Tryz.prog 8 #[.int .i64 op, .string (bs sl), .bool false] w fun e w' => e = .returned (.bool true) ∧ Below w.heap.size w w' := by
  have HA := Lib.hid (awake_any w hg hs)
  obtain ⟨sg, hsg, hwd, hln, hof⟩ := sgn_facts op hop
  have HS : Hid (∀ w, Calls Tryz.prog 29 #[.int .i64 op] w fun e w' => e = .returned (.tuple #[.string (bs sg), .bool true]) ∧ Below w.heap.size w w') := fun w => by
    have h := W.sign_any op w
    rw [hsg, show W.opb op = true by simp [W.opb]; omega] at h
    exact h
  have hne : opOf sg ≠ 0 := by omega
  obtain ⟨x1, x2, x3, ⟨z1, t1⟩, ⟨z2, t2⟩, ⟨z3, t3⟩, z4, t4⟩ := cats sg [49] #[49] 1 rfl rfl hln (by omega)
  have HP := Lib.hid (fun w => ops_call sg [49] hwd (by decide) hln (by decide) w)
  have HU : Hid (∀ w1 w2 a c p1 p2, Below w.heap.size w w1 → Below w1.heap.size w1 w2 → Row (fun b => w1.heap.size ≤ b) w2 a (opsN (opsX sg [49] p1 p2)) → 2 ≤ c → _) := fun w1 w2 a c p1 p2 hb1 hb2 hr hc => ops_read a c (hg.below hb1) hb2 hr hc hln (by decide) hne num_one
  rw [hof] at HU
  have HW := Lib.hid (fun w => word_any (bs sl) w)
  have HO := Lib.hid (fun w => of_bs sl w)
  rw [bs_list] at HW
  have HX : Hid (wordB sl = true → sl.length ≤ 100 → opOf sl = 0 → ¬ sl = [97, 116] → ¬ sl = [115, 101, 108] → ¬ sl = [99, 97, 108, 108] → (∀ w1, Calls Tryz.prog 16 #[.string (bs (opsT sl [49]))] w1 fun e w2 => Below w1.heap.size w1 w2 ∧ ∃ a c p1 p2, e = .returned (.tuple #[.slice a 2 c, .int .i64 0, .int .i64 (-1)]) ∧ Row (fun b => w1.heap.size ≤ b) w2 a (opsN (opsX sl [49] p1 p2)) ∧ 2 ≤ c) ∧ ∀ w1 w2 a c p1 p2, Below w.heap.size w w1 → Below w1.heap.size w1 w2 → Row (fun b => w1.heap.size ≤ b) w2 a (opsN (opsX sl [49] p1 p2)) → 2 ≤ c → Calls Tryz.prog 17 #[.slice a 2 c] w2 fun e w3 => Below w2.heap.size w2 w3 ∧ e = .returned (.tuple #[.agg #[.string ⟨#[]⟩, .slice none 0 0, .slice none 0 0], .int .i64 6, .int .i64 28])) := fun h1 h2 h3 h4 h5 h6 => ⟨fun w1 => ops_call sl [49] h1 (by decide) h2 (by decide) w1, fun w1 w2 a c p1 p2 hb1 hb2 hr hc => ops_refuse a c (hg.below hb1) hb2 hr hc h2 (by decide) h3 h4 h5 h6⟩
  clear hg hs hwd hne hof hsg hop
  go_enter Tryz.func8, Tryz.ntmps8
  go_wp2_with (first | (go_at_call 15; refine HA.out.mono ?_; rintro e w1 ⟨rfl, hb1⟩; refine Hid.out ?_))
  refine Lib.hid ?_
  go_wp2_with (first | (go_at_call 29; refine (HS.out _).mono ?_; rintro e w2 ⟨rfl, hb2⟩; refine Hid.out ?_))
  refine Lib.hid ?_
  have B2 : Below w.heap.size w w2 := Below.then hb1 hb2
  clear hb1 hb2 HA HS
  go_wp2_with (first | (go_at_call 16; refine (HP.out _).mono ?_; rintro e w3 ⟨hb3, a, c, p1, p2, rfl, hr, hc⟩; refine Hid.out ?_))
  refine Lib.hid ?_
  have hU := HU.out w2 w3 a c p1 p2 B2 hb3 hr hc
  clear hr HP HU
  go_wp2_with (first | (go_at_call 17; refine hU.mono ?_; rintro e w4 ⟨hb4, a1, c1, c2, b, o, b', o', m, c3, rfl, hc2, hc3, ⟨q0, q1, q2, q3, q4⟩, r0, r1, r5⟩; refine Hid.out ?_))
  refine Lib.hid ?_
  have B4 : Below w.heap.size w w4 := Below.then (Below.then B2 hb3) hb4
  clear B2 hb3 hb4 hU t1 t2 t3 t4 z1 z2 z3 z4
  have lt1 : b < w4.heap.size := World.block_lt_of_cell? w4 _ q0
  have lt2 : b' < w4.heap.size := World.block_lt_of_cell? w4 _ r0
  go_wp2_with (first | (go_at_call 30; refine (HW.out _).mono ?_; rintro e w5 ⟨rfl, hb5⟩; refine Hid.out ?_))
  refine Lib.hid ?_
  have B5 : Below w.heap.size w w5 := Below.then B4 (Below.then (two_below w4 _ _) hb5)
  have hbl : (bs sl).toList = sl := by rw [ByteArray.toList_eq, bs_list]
  have hbz : (bs sl).size = sl.length := bs_size sl
  have HZ : Hid ((bs sl).size = sl.length) := hbz
  have HB := Lib.hid hbl
  clear hbl hbz q0 q1 q2 q3 q4 r0 r1 r5 lt1 lt2 hb5 B4 HW hc hc2 hc3
  rcases hw : wordB sl with _ | _
  · go_wp2_with (go_at_call 31; refine (HO.out _).mono ?_; rintro e w6 ⟨rfl, hb6⟩)
    go_ret
    exact ⟨rfl, Below.then B5 hb6⟩
  · by_cases hk : opOf sl = 0
    · have hk' : decide (opOf sl ≠ 0) = false := by simpa using hk
      rw [hk'] at HO
      by_cases hl : 100 < sl.length
      · have g : (100 : Int) < ((bs sl).size : Int) := by rw [HZ.out]; omega
        go_wp2_with (go_at_call 31; refine (HO.out _).mono ?_; rintro e w6 ⟨rfl, hb6⟩)
        go_ret
        exact ⟨rfl, Below.then B5 hb6⟩
      · have g : ¬ (100 : Int) < ((bs sl).size : Int) := by rw [HZ.out]; omega
        have g' : decide ((100 : Int) < ((bs sl).size : Int)) = false := by simp; omega
        by_cases e1 : sl = [97, 116]
        · have s1 : (bs sl).toList = [97, 116] := by rw [HB.out, e1]
          clear e1
          go_wp2_with (go_at_call 31; refine (HO.out _).mono ?_; rintro e w6 ⟨rfl, hb6⟩)
          go_ret
          exact ⟨rfl, Below.then B5 hb6⟩
        have s1 : ((bs sl).toList == [97, 116]) = false := by rw [HB.out]; simpa using e1
        have n1 : ¬ (bs sl).toList = [97, 116] := by rw [HB.out]; exact e1
        by_cases e2 : sl = [115, 101, 108]
        · have s2 : (bs sl).toList = [115, 101, 108] := by rw [HB.out, e2]
          clear e2
          go_wp2_with (go_at_call 31; refine (HO.out _).mono ?_; rintro e w6 ⟨rfl, hb6⟩)
          go_ret
          exact ⟨rfl, Below.then B5 hb6⟩
        have s2 : ((bs sl).toList == [115, 101, 108]) = false := by rw [HB.out]; simpa using e2
        have n2 : ¬ (bs sl).toList = [115, 101, 108] := by rw [HB.out]; exact e2
        by_cases e3 : sl = [99, 97, 108, 108]
        · have s3 : (bs sl).toList = [99, 97, 108, 108] := by rw [HB.out, e3]
          clear e3
          go_wp2_with (go_at_call 31; refine (HO.out _).mono ?_; rintro e w6 ⟨rfl, hb6⟩)
          go_ret
          exact ⟨rfl, Below.then B5 hb6⟩
        have s3 : ((bs sl).toList == [99, 97, 108, 108]) = false := by rw [HB.out]; simpa using e3
        have n3 : ¬ (bs sl).toList = [99, 97, 108, 108] := by rw [HB.out]; exact e3
        obtain ⟨hP2, hU2⟩ := HX.out hw (by omega) hk e1 e2 e3
        obtain ⟨y1, ⟨z1, t1⟩, z2, t2⟩ := cats2 sl (by omega)
        clear HX e1 e2 e3 hk hk'
        have HU2 := Lib.hid hU2
        clear hU2
        go_wp2_with (first | (go_at_call 31; refine (HO.out _).mono ?_; rintro e w6 ⟨rfl, hb6⟩) | (go_at_call 16; refine (hP2 _).mono ?_; rintro e w7 ⟨hb7, a', c', p3, p4, rfl, hr7, hc7⟩; refine Hid.out ?_))
        refine Lib.hid ?_
        have B6 : Below w.heap.size w w6 := Below.then B5 hb6
        have hU3 := HU2.out w6 w7 a' c' p3 p4 B6 hb7 hr7 hc7
        clear HU2 hr7 hP2
        go_wp2_with (first | (go_at_call 17; refine hU3.mono ?_; rintro e w8 ⟨hb8, rfl⟩))
        go_ret
        exact ⟨rfl, Below.then (Below.then B6 hb7) (Below.then hb8 (one_below _ _))⟩
    · have hk' : decide (opOf sl ≠ 0) = true := by simpa using hk
      rw [hk'] at HO
      go_wp2_with (go_at_call 31; refine (HO.out _).mono ?_; rintro e w6 ⟨rfl, hb6⟩)
      go_ret
      exact ⟨rfl, Below.then B5 hb6⟩
theorem ops_11 {B : Nat} (op : Int) (sl : List UInt8) (w : World) (hg : Glob B w) (hs : Sh.Glob B w) (hop : 1 ≤ op ∧ op ≤ 10) : Calls Tryz.prog 8 #[.int .i64 op, .string (bs sl), .bool true] w fun e w' => e = .returned (.bool true) ∧ Below w.heap.size w w' := by
  have HA := Lib.hid (awake_any w hg hs)
  obtain ⟨sg, hsg, hwd, hln, hof⟩ := sgn_facts op hop
  have HS : Hid (∀ w, Calls Tryz.prog 29 #[.int .i64 op] w fun e w' => e = .returned (.tuple #[.string (bs sg), .bool true]) ∧ Below w.heap.size w w') := fun w => by
    have h := W.sign_any op w
    rw [hsg, show W.opb op = true by simp [W.opb]; omega] at h
    exact h
  have hne : opOf sg ≠ 0 := by omega
  obtain ⟨x1, x2, x3, ⟨z1, t1⟩, ⟨z2, t2⟩, ⟨z3, t3⟩, z4, t4⟩ := cats sg [52, 50, 57, 52, 57, 54, 55, 50, 57, 53] #[52, 50, 57, 52, 57, 54, 55, 50, 57, 53] 10 rfl rfl hln (by omega)
  have HP := Lib.hid (fun w => ops_call sg [52, 50, 57, 52, 57, 54, 55, 50, 57, 53] hwd (by decide) hln (by decide) w)
  have HU : Hid (∀ w1 w2 a c p1 p2, Below w.heap.size w w1 → Below w1.heap.size w1 w2 → Row (fun b => w1.heap.size ≤ b) w2 a (opsN (opsX sg [52, 50, 57, 52, 57, 54, 55, 50, 57, 53] p1 p2)) → 2 ≤ c → _) := fun w1 w2 a c p1 p2 hb1 hb2 hr hc => ops_read a c (hg.below hb1) hb2 hr hc hln (by decide) hne num_big
  rw [hof] at HU
  have HW := Lib.hid (fun w => word_any (bs sl) w)
  have HO := Lib.hid (fun w => of_bs sl w)
  rw [bs_list] at HW
  have HX : Hid (wordB sl = true → sl.length ≤ 100 → opOf sl = 0 → ¬ sl = [97, 116] → ¬ sl = [115, 101, 108] → ¬ sl = [99, 97, 108, 108] → (∀ w1, Calls Tryz.prog 16 #[.string (bs (opsT sl [49]))] w1 fun e w2 => Below w1.heap.size w1 w2 ∧ ∃ a c p1 p2, e = .returned (.tuple #[.slice a 2 c, .int .i64 0, .int .i64 (-1)]) ∧ Row (fun b => w1.heap.size ≤ b) w2 a (opsN (opsX sl [49] p1 p2)) ∧ 2 ≤ c) ∧ ∀ w1 w2 a c p1 p2, Below w.heap.size w w1 → Below w1.heap.size w1 w2 → Row (fun b => w1.heap.size ≤ b) w2 a (opsN (opsX sl [49] p1 p2)) → 2 ≤ c → Calls Tryz.prog 17 #[.slice a 2 c] w2 fun e w3 => Below w2.heap.size w2 w3 ∧ e = .returned (.tuple #[.agg #[.string ⟨#[]⟩, .slice none 0 0, .slice none 0 0], .int .i64 6, .int .i64 28])) := fun h1 h2 h3 h4 h5 h6 => ⟨fun w1 => ops_call sl [49] h1 (by decide) h2 (by decide) w1, fun w1 w2 a c p1 p2 hb1 hb2 hr hc => ops_refuse a c (hg.below hb1) hb2 hr hc h2 (by decide) h3 h4 h5 h6⟩
  clear hg hs hwd hne hof hsg hop
  go_enter Tryz.func8, Tryz.ntmps8
  go_wp2_with (first | (go_at_call 15; refine HA.out.mono ?_; rintro e w1 ⟨rfl, hb1⟩; refine Hid.out ?_))
  refine Lib.hid ?_
  go_wp2_with (first | (go_at_call 29; refine (HS.out _).mono ?_; rintro e w2 ⟨rfl, hb2⟩; refine Hid.out ?_))
  refine Lib.hid ?_
  have B2 : Below w.heap.size w w2 := Below.then hb1 hb2
  clear hb1 hb2 HA HS
  go_wp2_with (first | (go_at_call 16; refine (HP.out _).mono ?_; rintro e w3 ⟨hb3, a, c, p1, p2, rfl, hr, hc⟩; refine Hid.out ?_))
  refine Lib.hid ?_
  have hU := HU.out w2 w3 a c p1 p2 B2 hb3 hr hc
  clear hr HP HU
  go_wp2_with (first | (go_at_call 17; refine hU.mono ?_; rintro e w4 ⟨hb4, a1, c1, c2, b, o, b', o', m, c3, rfl, hc2, hc3, ⟨q0, q1, q2, q3, q4⟩, r0, r1, r5⟩; refine Hid.out ?_))
  refine Lib.hid ?_
  have B4 : Below w.heap.size w w4 := Below.then (Below.then B2 hb3) hb4
  clear B2 hb3 hb4 hU t1 t2 t3 t4 z1 z2 z3 z4
  have lt1 : b < w4.heap.size := World.block_lt_of_cell? w4 _ q0
  have lt2 : b' < w4.heap.size := World.block_lt_of_cell? w4 _ r0
  go_wp2_with (first | (go_at_call 30; refine (HW.out _).mono ?_; rintro e w5 ⟨rfl, hb5⟩; refine Hid.out ?_))
  refine Lib.hid ?_
  have B5 : Below w.heap.size w w5 := Below.then B4 (Below.then (two_below w4 _ _) hb5)
  have hbl : (bs sl).toList = sl := by rw [ByteArray.toList_eq, bs_list]
  have hbz : (bs sl).size = sl.length := bs_size sl
  have HZ : Hid ((bs sl).size = sl.length) := hbz
  have HB := Lib.hid hbl
  clear hbl hbz q0 q1 q2 q3 q4 r0 r1 r5 lt1 lt2 hb5 B4 HW hc hc2 hc3
  rcases hw : wordB sl with _ | _
  · go_wp2_with (go_at_call 31; refine (HO.out _).mono ?_; rintro e w6 ⟨rfl, hb6⟩)
    go_ret
    exact ⟨rfl, Below.then B5 hb6⟩
  · by_cases hk : opOf sl = 0
    · have hk' : decide (opOf sl ≠ 0) = false := by simpa using hk
      rw [hk'] at HO
      by_cases hl : 100 < sl.length
      · have g : (100 : Int) < ((bs sl).size : Int) := by rw [HZ.out]; omega
        go_wp2_with (go_at_call 31; refine (HO.out _).mono ?_; rintro e w6 ⟨rfl, hb6⟩)
        go_ret
        exact ⟨rfl, Below.then B5 hb6⟩
      · have g : ¬ (100 : Int) < ((bs sl).size : Int) := by rw [HZ.out]; omega
        have g' : decide ((100 : Int) < ((bs sl).size : Int)) = false := by simp; omega
        by_cases e1 : sl = [97, 116]
        · have s1 : (bs sl).toList = [97, 116] := by rw [HB.out, e1]
          clear e1
          go_wp2_with (go_at_call 31; refine (HO.out _).mono ?_; rintro e w6 ⟨rfl, hb6⟩)
          go_ret
          exact ⟨rfl, Below.then B5 hb6⟩
        have s1 : ((bs sl).toList == [97, 116]) = false := by rw [HB.out]; simpa using e1
        have n1 : ¬ (bs sl).toList = [97, 116] := by rw [HB.out]; exact e1
        by_cases e2 : sl = [115, 101, 108]
        · have s2 : (bs sl).toList = [115, 101, 108] := by rw [HB.out, e2]
          clear e2
          go_wp2_with (go_at_call 31; refine (HO.out _).mono ?_; rintro e w6 ⟨rfl, hb6⟩)
          go_ret
          exact ⟨rfl, Below.then B5 hb6⟩
        have s2 : ((bs sl).toList == [115, 101, 108]) = false := by rw [HB.out]; simpa using e2
        have n2 : ¬ (bs sl).toList = [115, 101, 108] := by rw [HB.out]; exact e2
        by_cases e3 : sl = [99, 97, 108, 108]
        · have s3 : (bs sl).toList = [99, 97, 108, 108] := by rw [HB.out, e3]
          clear e3
          go_wp2_with (go_at_call 31; refine (HO.out _).mono ?_; rintro e w6 ⟨rfl, hb6⟩)
          go_ret
          exact ⟨rfl, Below.then B5 hb6⟩
        have s3 : ((bs sl).toList == [99, 97, 108, 108]) = false := by rw [HB.out]; simpa using e3
        have n3 : ¬ (bs sl).toList = [99, 97, 108, 108] := by rw [HB.out]; exact e3
        obtain ⟨hP2, hU2⟩ := HX.out hw (by omega) hk e1 e2 e3
        obtain ⟨y1, ⟨z1, t1⟩, z2, t2⟩ := cats2 sl (by omega)
        clear HX e1 e2 e3 hk hk'
        have HU2 := Lib.hid hU2
        clear hU2
        go_wp2_with (first | (go_at_call 31; refine (HO.out _).mono ?_; rintro e w6 ⟨rfl, hb6⟩) | (go_at_call 16; refine (hP2 _).mono ?_; rintro e w7 ⟨hb7, a', c', p3, p4, rfl, hr7, hc7⟩; refine Hid.out ?_))
        refine Lib.hid ?_
        have B6 : Below w.heap.size w w6 := Below.then B5 hb6
        have hU3 := HU2.out w6 w7 a' c' p3 p4 B6 hb7 hr7 hc7
        clear HU2 hr7 hP2
        go_wp2_with (first | (go_at_call 17; refine hU3.mono ?_; rintro e w8 ⟨hb8, rfl⟩))
        go_ret
        exact ⟨rfl, Below.then (Below.then B6 hb7) (Below.then hb8 (one_below _ _))⟩
    · have hk' : decide (opOf sl ≠ 0) = true := by simpa using hk
      rw [hk'] at HO
      go_wp2_with (go_at_call 31; refine (HO.out _).mono ?_; rintro e w6 ⟨rfl, hb6⟩)
      go_ret
      exact ⟨rfl, Below.then B5 hb6⟩
theorem ops_00 {B : Nat} (op : Int) (sl : List UInt8) (w : World) (hg : Glob B w) (hs : Sh.Glob B w) (hop : ¬ (1 ≤ op ∧ op ≤ 10)) : Calls Tryz.prog 8 #[.int .i64 op, .string (bs sl), .bool false] w fun e w' => e = .returned (.bool true) ∧ Below w.heap.size w w' := by
  have HA := Lib.hid (awake_any w hg hs)
  have HS : Hid (∀ w, Calls Tryz.prog 29 #[.int .i64 op] w fun e w' => e = .returned (.tuple #[.string (W.sgn op), .bool false]) ∧ Below w.heap.size w w') := fun w => by
    have h := W.sign_any op w
    rw [show W.opb op = false by simp [W.opb]; omega] at h
    exact h
  have hwd : wordB [43] = true := by decide
  have hln : ([43] : List UInt8).length ≤ 100 := by decide
  have hne : opOf [43] ≠ 0 := by decide
  have hof : opOf [43] = 1 := by decide
  obtain ⟨x1, x2, x3, ⟨z1, t1⟩, ⟨z2, t2⟩, ⟨z3, t3⟩, z4, t4⟩ := cats [43] [49] #[49] 1 rfl rfl hln (by omega)
  have u1 : (⟨#[40, 117, 110, 105, 116, 32, 97, 41, 32, 40, 102, 110, 32, 102, 32, 40, 41, 32, 112, 117, 98, 32, 40, 114, 101, 116, 32, 40]⟩ : ByteArray) ++ (⟨#[43]⟩ : ByteArray) = bs x1 := t1
  have HP := Lib.hid (fun w => ops_call [43] [49] hwd (by decide) hln (by decide) w)
  have HU : Hid (∀ w1 w2 a c p1 p2, Below w.heap.size w w1 → Below w1.heap.size w1 w2 → Row (fun b => w1.heap.size ≤ b) w2 a (opsN (opsX [43] [49] p1 p2)) → 2 ≤ c → _) := fun w1 w2 a c p1 p2 hb1 hb2 hr hc => ops_read a c (hg.below hb1) hb2 hr hc hln (by decide) hne num_one
  rw [hof] at HU
  have HW := Lib.hid (fun w => word_any (bs sl) w)
  have HO := Lib.hid (fun w => of_bs sl w)
  rw [bs_list] at HW
  have HX : Hid (wordB sl = true → sl.length ≤ 100 → opOf sl = 0 → ¬ sl = [97, 116] → ¬ sl = [115, 101, 108] → ¬ sl = [99, 97, 108, 108] → (∀ w1, Calls Tryz.prog 16 #[.string (bs (opsT sl [49]))] w1 fun e w2 => Below w1.heap.size w1 w2 ∧ ∃ a c p1 p2, e = .returned (.tuple #[.slice a 2 c, .int .i64 0, .int .i64 (-1)]) ∧ Row (fun b => w1.heap.size ≤ b) w2 a (opsN (opsX sl [49] p1 p2)) ∧ 2 ≤ c) ∧ ∀ w1 w2 a c p1 p2, Below w.heap.size w w1 → Below w1.heap.size w1 w2 → Row (fun b => w1.heap.size ≤ b) w2 a (opsN (opsX sl [49] p1 p2)) → 2 ≤ c → Calls Tryz.prog 17 #[.slice a 2 c] w2 fun e w3 => Below w2.heap.size w2 w3 ∧ e = .returned (.tuple #[.agg #[.string ⟨#[]⟩, .slice none 0 0, .slice none 0 0], .int .i64 6, .int .i64 28])) := fun h1 h2 h3 h4 h5 h6 => ⟨fun w1 => ops_call sl [49] h1 (by decide) h2 (by decide) w1, fun w1 w2 a c p1 p2 hb1 hb2 hr hc => ops_refuse a c (hg.below hb1) hb2 hr hc h2 (by decide) h3 h4 h5 h6⟩
  clear hg hs hwd hne hof hop
  go_enter Tryz.func8, Tryz.ntmps8
  go_wp2_with (first | (go_at_call 15; refine HA.out.mono ?_; rintro e w1 ⟨rfl, hb1⟩; refine Hid.out ?_))
  refine Lib.hid ?_
  go_wp2_with (first | (go_at_call 29; refine (HS.out _).mono ?_; rintro e w2 ⟨rfl, hb2⟩; refine Hid.out ?_))
  refine Lib.hid ?_
  have B2 : Below w.heap.size w w2 := Below.then hb1 hb2
  clear hb1 hb2 HA HS
  go_wp2_with (first | (go_at_call 16; refine (HP.out _).mono ?_; rintro e w3 ⟨hb3, a, c, p1, p2, rfl, hr, hc⟩; refine Hid.out ?_))
  refine Lib.hid ?_
  have hU := HU.out w2 w3 a c p1 p2 B2 hb3 hr hc
  clear hr HP HU
  go_wp2_with (first | (go_at_call 17; refine hU.mono ?_; rintro e w4 ⟨hb4, a1, c1, c2, b, o, b', o', m, c3, rfl, hc2, hc3, ⟨q0, q1, q2, q3, q4⟩, r0, r1, r5⟩; refine Hid.out ?_))
  refine Lib.hid ?_
  have B4 : Below w.heap.size w w4 := Below.then (Below.then B2 hb3) hb4
  clear B2 hb3 hb4 hU t1 t2 t3 t4 z1 z2 z3 z4 u1
  have lt1 : b < w4.heap.size := World.block_lt_of_cell? w4 _ q0
  have lt2 : b' < w4.heap.size := World.block_lt_of_cell? w4 _ r0
  go_wp2_with (first | (go_at_call 30; refine (HW.out _).mono ?_; rintro e w5 ⟨rfl, hb5⟩; refine Hid.out ?_))
  refine Lib.hid ?_
  have B5 : Below w.heap.size w w5 := Below.then B4 (Below.then (two_below w4 _ _) hb5)
  have hbl : (bs sl).toList = sl := by rw [ByteArray.toList_eq, bs_list]
  have hbz : (bs sl).size = sl.length := bs_size sl
  have HZ : Hid ((bs sl).size = sl.length) := hbz
  have HB := Lib.hid hbl
  clear hbl hbz q0 q1 q2 q3 q4 r0 r1 r5 lt1 lt2 hb5 B4 HW hc hc2 hc3
  rcases hw : wordB sl with _ | _
  · go_wp2_with (go_at_call 31; refine (HO.out _).mono ?_; rintro e w6 ⟨rfl, hb6⟩)
    go_ret
    exact ⟨rfl, Below.then B5 hb6⟩
  · by_cases hk : opOf sl = 0
    · have hk' : decide (opOf sl ≠ 0) = false := by simpa using hk
      rw [hk'] at HO
      by_cases hl : 100 < sl.length
      · have g : (100 : Int) < ((bs sl).size : Int) := by rw [HZ.out]; omega
        go_wp2_with (go_at_call 31; refine (HO.out _).mono ?_; rintro e w6 ⟨rfl, hb6⟩)
        go_ret
        exact ⟨rfl, Below.then B5 hb6⟩
      · have g : ¬ (100 : Int) < ((bs sl).size : Int) := by rw [HZ.out]; omega
        have g' : decide ((100 : Int) < ((bs sl).size : Int)) = false := by simp; omega
        by_cases e1 : sl = [97, 116]
        · have s1 : (bs sl).toList = [97, 116] := by rw [HB.out, e1]
          clear e1
          go_wp2_with (go_at_call 31; refine (HO.out _).mono ?_; rintro e w6 ⟨rfl, hb6⟩)
          go_ret
          exact ⟨rfl, Below.then B5 hb6⟩
        have s1 : ((bs sl).toList == [97, 116]) = false := by rw [HB.out]; simpa using e1
        have n1 : ¬ (bs sl).toList = [97, 116] := by rw [HB.out]; exact e1
        by_cases e2 : sl = [115, 101, 108]
        · have s2 : (bs sl).toList = [115, 101, 108] := by rw [HB.out, e2]
          clear e2
          go_wp2_with (go_at_call 31; refine (HO.out _).mono ?_; rintro e w6 ⟨rfl, hb6⟩)
          go_ret
          exact ⟨rfl, Below.then B5 hb6⟩
        have s2 : ((bs sl).toList == [115, 101, 108]) = false := by rw [HB.out]; simpa using e2
        have n2 : ¬ (bs sl).toList = [115, 101, 108] := by rw [HB.out]; exact e2
        by_cases e3 : sl = [99, 97, 108, 108]
        · have s3 : (bs sl).toList = [99, 97, 108, 108] := by rw [HB.out, e3]
          clear e3
          go_wp2_with (go_at_call 31; refine (HO.out _).mono ?_; rintro e w6 ⟨rfl, hb6⟩)
          go_ret
          exact ⟨rfl, Below.then B5 hb6⟩
        have s3 : ((bs sl).toList == [99, 97, 108, 108]) = false := by rw [HB.out]; simpa using e3
        have n3 : ¬ (bs sl).toList = [99, 97, 108, 108] := by rw [HB.out]; exact e3
        obtain ⟨hP2, hU2⟩ := HX.out hw (by omega) hk e1 e2 e3
        obtain ⟨y1, ⟨z1, t1⟩, z2, t2⟩ := cats2 sl (by omega)
        clear HX e1 e2 e3 hk hk'
        have HU2 := Lib.hid hU2
        clear hU2
        go_wp2_with (first | (go_at_call 31; refine (HO.out _).mono ?_; rintro e w6 ⟨rfl, hb6⟩) | (go_at_call 16; refine (hP2 _).mono ?_; rintro e w7 ⟨hb7, a', c', p3, p4, rfl, hr7, hc7⟩; refine Hid.out ?_))
        refine Lib.hid ?_
        have B6 : Below w.heap.size w w6 := Below.then B5 hb6
        have hU3 := HU2.out w6 w7 a' c' p3 p4 B6 hb7 hr7 hc7
        clear HU2 hr7 hP2
        go_wp2_with (first | (go_at_call 17; refine hU3.mono ?_; rintro e w8 ⟨hb8, rfl⟩))
        go_ret
        exact ⟨rfl, Below.then (Below.then B6 hb7) (Below.then hb8 (one_below _ _))⟩
    · have hk' : decide (opOf sl ≠ 0) = true := by simpa using hk
      rw [hk'] at HO
      go_wp2_with (go_at_call 31; refine (HO.out _).mono ?_; rintro e w6 ⟨rfl, hb6⟩)
      go_ret
      exact ⟨rfl, Below.then B5 hb6⟩
theorem ops_01 {B : Nat} (op : Int) (sl : List UInt8) (w : World) (hg : Glob B w) (hs : Sh.Glob B w) (hop : ¬ (1 ≤ op ∧ op ≤ 10)) : Calls Tryz.prog 8 #[.int .i64 op, .string (bs sl), .bool true] w fun e w' => e = .returned (.bool true) ∧ Below w.heap.size w w' := by
  have HA := Lib.hid (awake_any w hg hs)
  have HS : Hid (∀ w, Calls Tryz.prog 29 #[.int .i64 op] w fun e w' => e = .returned (.tuple #[.string (W.sgn op), .bool false]) ∧ Below w.heap.size w w') := fun w => by
    have h := W.sign_any op w
    rw [show W.opb op = false by simp [W.opb]; omega] at h
    exact h
  have hwd : wordB [43] = true := by decide
  have hln : ([43] : List UInt8).length ≤ 100 := by decide
  have hne : opOf [43] ≠ 0 := by decide
  have hof : opOf [43] = 1 := by decide
  obtain ⟨x1, x2, x3, ⟨z1, t1⟩, ⟨z2, t2⟩, ⟨z3, t3⟩, z4, t4⟩ := cats [43] [52, 50, 57, 52, 57, 54, 55, 50, 57, 53] #[52, 50, 57, 52, 57, 54, 55, 50, 57, 53] 10 rfl rfl hln (by omega)
  have u1 : (⟨#[40, 117, 110, 105, 116, 32, 97, 41, 32, 40, 102, 110, 32, 102, 32, 40, 41, 32, 112, 117, 98, 32, 40, 114, 101, 116, 32, 40]⟩ : ByteArray) ++ (⟨#[43]⟩ : ByteArray) = bs x1 := t1
  have HP := Lib.hid (fun w => ops_call [43] [52, 50, 57, 52, 57, 54, 55, 50, 57, 53] hwd (by decide) hln (by decide) w)
  have HU : Hid (∀ w1 w2 a c p1 p2, Below w.heap.size w w1 → Below w1.heap.size w1 w2 → Row (fun b => w1.heap.size ≤ b) w2 a (opsN (opsX [43] [52, 50, 57, 52, 57, 54, 55, 50, 57, 53] p1 p2)) → 2 ≤ c → _) := fun w1 w2 a c p1 p2 hb1 hb2 hr hc => ops_read a c (hg.below hb1) hb2 hr hc hln (by decide) hne num_big
  rw [hof] at HU
  have HW := Lib.hid (fun w => word_any (bs sl) w)
  have HO := Lib.hid (fun w => of_bs sl w)
  rw [bs_list] at HW
  have HX : Hid (wordB sl = true → sl.length ≤ 100 → opOf sl = 0 → ¬ sl = [97, 116] → ¬ sl = [115, 101, 108] → ¬ sl = [99, 97, 108, 108] → (∀ w1, Calls Tryz.prog 16 #[.string (bs (opsT sl [49]))] w1 fun e w2 => Below w1.heap.size w1 w2 ∧ ∃ a c p1 p2, e = .returned (.tuple #[.slice a 2 c, .int .i64 0, .int .i64 (-1)]) ∧ Row (fun b => w1.heap.size ≤ b) w2 a (opsN (opsX sl [49] p1 p2)) ∧ 2 ≤ c) ∧ ∀ w1 w2 a c p1 p2, Below w.heap.size w w1 → Below w1.heap.size w1 w2 → Row (fun b => w1.heap.size ≤ b) w2 a (opsN (opsX sl [49] p1 p2)) → 2 ≤ c → Calls Tryz.prog 17 #[.slice a 2 c] w2 fun e w3 => Below w2.heap.size w2 w3 ∧ e = .returned (.tuple #[.agg #[.string ⟨#[]⟩, .slice none 0 0, .slice none 0 0], .int .i64 6, .int .i64 28])) := fun h1 h2 h3 h4 h5 h6 => ⟨fun w1 => ops_call sl [49] h1 (by decide) h2 (by decide) w1, fun w1 w2 a c p1 p2 hb1 hb2 hr hc => ops_refuse a c (hg.below hb1) hb2 hr hc h2 (by decide) h3 h4 h5 h6⟩
  clear hg hs hwd hne hof hop
  go_enter Tryz.func8, Tryz.ntmps8
  go_wp2_with (first | (go_at_call 15; refine HA.out.mono ?_; rintro e w1 ⟨rfl, hb1⟩; refine Hid.out ?_))
  refine Lib.hid ?_
  go_wp2_with (first | (go_at_call 29; refine (HS.out _).mono ?_; rintro e w2 ⟨rfl, hb2⟩; refine Hid.out ?_))
  refine Lib.hid ?_
  have B2 : Below w.heap.size w w2 := Below.then hb1 hb2
  clear hb1 hb2 HA HS
  go_wp2_with (first | (go_at_call 16; refine (HP.out _).mono ?_; rintro e w3 ⟨hb3, a, c, p1, p2, rfl, hr, hc⟩; refine Hid.out ?_))
  refine Lib.hid ?_
  have hU := HU.out w2 w3 a c p1 p2 B2 hb3 hr hc
  clear hr HP HU
  go_wp2_with (first | (go_at_call 17; refine hU.mono ?_; rintro e w4 ⟨hb4, a1, c1, c2, b, o, b', o', m, c3, rfl, hc2, hc3, ⟨q0, q1, q2, q3, q4⟩, r0, r1, r5⟩; refine Hid.out ?_))
  refine Lib.hid ?_
  have B4 : Below w.heap.size w w4 := Below.then (Below.then B2 hb3) hb4
  clear B2 hb3 hb4 hU t1 t2 t3 t4 z1 z2 z3 z4 u1
  have lt1 : b < w4.heap.size := World.block_lt_of_cell? w4 _ q0
  have lt2 : b' < w4.heap.size := World.block_lt_of_cell? w4 _ r0
  go_wp2_with (first | (go_at_call 30; refine (HW.out _).mono ?_; rintro e w5 ⟨rfl, hb5⟩; refine Hid.out ?_))
  refine Lib.hid ?_
  have B5 : Below w.heap.size w w5 := Below.then B4 (Below.then (two_below w4 _ _) hb5)
  have hbl : (bs sl).toList = sl := by rw [ByteArray.toList_eq, bs_list]
  have hbz : (bs sl).size = sl.length := bs_size sl
  have HZ : Hid ((bs sl).size = sl.length) := hbz
  have HB := Lib.hid hbl
  clear hbl hbz q0 q1 q2 q3 q4 r0 r1 r5 lt1 lt2 hb5 B4 HW hc hc2 hc3
  rcases hw : wordB sl with _ | _
  · go_wp2_with (go_at_call 31; refine (HO.out _).mono ?_; rintro e w6 ⟨rfl, hb6⟩)
    go_ret
    exact ⟨rfl, Below.then B5 hb6⟩
  · by_cases hk : opOf sl = 0
    · have hk' : decide (opOf sl ≠ 0) = false := by simpa using hk
      rw [hk'] at HO
      by_cases hl : 100 < sl.length
      · have g : (100 : Int) < ((bs sl).size : Int) := by rw [HZ.out]; omega
        go_wp2_with (go_at_call 31; refine (HO.out _).mono ?_; rintro e w6 ⟨rfl, hb6⟩)
        go_ret
        exact ⟨rfl, Below.then B5 hb6⟩
      · have g : ¬ (100 : Int) < ((bs sl).size : Int) := by rw [HZ.out]; omega
        have g' : decide ((100 : Int) < ((bs sl).size : Int)) = false := by simp; omega
        by_cases e1 : sl = [97, 116]
        · have s1 : (bs sl).toList = [97, 116] := by rw [HB.out, e1]
          clear e1
          go_wp2_with (go_at_call 31; refine (HO.out _).mono ?_; rintro e w6 ⟨rfl, hb6⟩)
          go_ret
          exact ⟨rfl, Below.then B5 hb6⟩
        have s1 : ((bs sl).toList == [97, 116]) = false := by rw [HB.out]; simpa using e1
        have n1 : ¬ (bs sl).toList = [97, 116] := by rw [HB.out]; exact e1
        by_cases e2 : sl = [115, 101, 108]
        · have s2 : (bs sl).toList = [115, 101, 108] := by rw [HB.out, e2]
          clear e2
          go_wp2_with (go_at_call 31; refine (HO.out _).mono ?_; rintro e w6 ⟨rfl, hb6⟩)
          go_ret
          exact ⟨rfl, Below.then B5 hb6⟩
        have s2 : ((bs sl).toList == [115, 101, 108]) = false := by rw [HB.out]; simpa using e2
        have n2 : ¬ (bs sl).toList = [115, 101, 108] := by rw [HB.out]; exact e2
        by_cases e3 : sl = [99, 97, 108, 108]
        · have s3 : (bs sl).toList = [99, 97, 108, 108] := by rw [HB.out, e3]
          clear e3
          go_wp2_with (go_at_call 31; refine (HO.out _).mono ?_; rintro e w6 ⟨rfl, hb6⟩)
          go_ret
          exact ⟨rfl, Below.then B5 hb6⟩
        have s3 : ((bs sl).toList == [99, 97, 108, 108]) = false := by rw [HB.out]; simpa using e3
        have n3 : ¬ (bs sl).toList = [99, 97, 108, 108] := by rw [HB.out]; exact e3
        obtain ⟨hP2, hU2⟩ := HX.out hw (by omega) hk e1 e2 e3
        obtain ⟨y1, ⟨z1, t1⟩, z2, t2⟩ := cats2 sl (by omega)
        clear HX e1 e2 e3 hk hk'
        have HU2 := Lib.hid hU2
        clear hU2
        go_wp2_with (first | (go_at_call 31; refine (HO.out _).mono ?_; rintro e w6 ⟨rfl, hb6⟩) | (go_at_call 16; refine (hP2 _).mono ?_; rintro e w7 ⟨hb7, a', c', p3, p4, rfl, hr7, hc7⟩; refine Hid.out ?_))
        refine Lib.hid ?_
        have B6 : Below w.heap.size w w6 := Below.then B5 hb6
        have hU3 := HU2.out w6 w7 a' c' p3 p4 B6 hb7 hr7 hc7
        clear HU2 hr7 hP2
        go_wp2_with (first | (go_at_call 17; refine hU3.mono ?_; rintro e w8 ⟨hb8, rfl⟩))
        go_ret
        exact ⟨rfl, Below.then (Below.then B6 hb7) (Below.then hb8 (one_below _ _))⟩
    · have hk' : decide (opOf sl ≠ 0) = true := by simpa using hk
      rw [hk'] at HO
      go_wp2_with (go_at_call 31; refine (HO.out _).mono ?_; rintro e w6 ⟨rfl, hb6⟩)
      go_ret
      exact ⟨rfl, Below.then B5 hb6⟩
theorem ops_walk {B : Nat} (op : Int) (s : ByteArray) (a : Bool) (w : World) (hg : Glob B w) (hs : Sh.Glob B w) : Calls Tryz.prog 8 #[.int .i64 op, .string s, .bool a] w fun e w' => e = .returned (.bool true) ∧ Below w.heap.size w w' := by
  rw [← bs_of s]
  by_cases hop : 1 ≤ op ∧ op ≤ 10
  · cases a
    · exact ops_10 op _ w hg hs hop
    · exact ops_11 op _ w hg hs hop
  · cases a
    · exact ops_00 op _ w hg hs hop
    · exact ops_01 op _ w hg hs hop
end
end Go.Proofs.YtpagbhgnkbbdjaaGreatDoor
