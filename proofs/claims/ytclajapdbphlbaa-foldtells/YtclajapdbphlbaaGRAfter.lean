/- CONTRACT of the reference's after. -/
import Derived.Test.YtclajapdbphlbaaGRKnown
import Derived.Test.YtclajapdbphlbaaGROp
import Derived.Test.YtclajapdbphlbaaGFoldM
namespace Go.Proofs.Ytclajapdbphlbaa
open Go.ChangeShapes Go.WideShapes Go.ChangeAt Go.RowKit

theorem FoldOk.pos {l : List Ir} (h : FoldOk l) : ∀ x ∈ l, x.kind = 8 ∨ x.kind = 9 → 0 ≤ x.c := fun x hx h8 => (h.jump x hx h8).1
/-- All that is known is a word. -/
theorem knAt_ok {l : List Ir} (hn : ∀ x ∈ l, x.n < 4294967296) : ∀ k, k ≤ l.length → WordOk (knAt (begs l) l k)
  | 0, _ => by rw [knAt]; exact WordOk.none.ahead _ _
  | k + 1, hk => by
    have ih := knAt_ok hn k (by omega)
    have hgd : l.getD k ⟨0, 0, 0, 0, 0, 0, 0, [], []⟩ = l[k] := by rw [List.getD_eq_getElem?_getD, List.getElem?_eq_getElem (by omega)]; rfl
    rw [knAt, hgd]
    refine WordOk.ahead ?_ _ _
    unfold nextK
    split
    · exact ih.put _ fun m e => by injection e with e; rw [← e]; exact hn _ (List.getElem_mem _)
    split
    · exact ih.put _ fun m e => by cases e
    split
    · rename_i hm
      exact ih.put _ fun m e => worth_lt ih hm e
    · exact ih
theorem aft_lt {K : Kws} (h : WordOk K) {x : Ir} (hn : x.n < 4294967296) : (aft K x).getD 0 < 4294967296 := by
  cases e : aft K x with
  | none => show 0 < _; decide
  | some v =>
    show v < _
    unfold aft at e
    split at e
    · injection e with e; omega
    split at e
    · rename_i hm; exact worth_lt h hm e
    · cases e
theorem aft_1 (K : Kws) {x : Ir} (h : x.kind = 1) : aft K x = some x.n := if_pos h
theorem aft_m (K : Kws) {x : Ir} (h : mayW x = true) : aft K x = worth K x := by
  have := mayW_kind h
  unfold aft; rw [if_neg (by omega), if_pos h]
theorem aft_no (K : Kws) {x : Ir} (h1 : x.kind ≠ 1) (h : mayW x = false) : aft K x = none := by
  unfold aft; rw [if_neg h1, h]; rfl
theorem four_box (w : World) (o1 o2 : Obj) : ((w.alloc o1).alloc o2).heap[w.heap.size]? = some o1 ∧ ((w.alloc o1).alloc o2).heap[w.heap.size + 1]? = some o2 ∧ Below w.heap.size w ((w.alloc o1).alloc o2) ∧ ((w.alloc o1).alloc o2).heap.size = w.heap.size + 2 := two_box' w o1 o2
set_option maxRecDepth 100000 in
set_option maxHeartbeats 8000000 in
theorem refAfter_any {S T : Nat → Prop} (x : Co) (pa : Option Addr) (pc : Nat) (la : Option Addr) (lc : Nat) (fa : Option Addr) (fc : Nat) (i : Nat) (w : World) (h : kIr.row w S la x.l) (hf : kFa.row w T fa (facts x.l i)) (hok : FoldOk x.l) (hi : i < x.l.length) (hn : ∀ z ∈ x.l, z.n < 4294967296) :
    Calls Try.prog 25 #[.agg #[.string (bs x.name), .slice pa x.ps.length pc, .int .i64 x.regs, .int .i64 x.cells, .slice la x.l.length lc], .slice fa i fc, .int .i64 (i : Int)] w fun e w' => e = .returned (faV (aft (knAt (begs x.l) x.l i) x.l[i])) ∧ Below w.heap.size w w' := by
  have hlen := hok.len
  have hkn : ∀ (r : Int) (w' : World), Below w.heap.size w w' → Calls Try.prog 43 #[.agg #[.string (bs x.name), .slice pa x.ps.length pc, .int .i64 x.regs, .int .i64 x.cells, .slice la x.l.length lc], .slice fa i fc, .int .i64 (i : Int), .int .i64 r] w' fun e w'' => e = .returned (faV (knAt (begs x.l) x.l i r)) ∧ Below w'.heap.size w' w'' := fun r w' hb => by
    have := refKn_any x pa pc la lc fa (facts x.l i) fc i r w' (kIr.row_mono (T := S) (by decide) h fun b hb0 hlt => ⟨hb0, hb.block b hlt⟩) (kFa.row_mono (T := T) (by decide) hf fun b hb0 hlt => ⟨hb0, hb.block b hlt⟩) (by omega) (by omega) (facts_len _ _)
    rw [rKn_eq hok.pos hok.kind i (by omega) i (Nat.le_refl _)] at this
    exact this
  have HKN : Hid _ := hkn
  have hwk := knAt_ok hn i (by omega)
  obtain ⟨b, o, ga, gc, rfl, _, hb, hia, hgc, hn1, hr1⟩ := ir_at h i hi
  have HL : Hid _ := two_box' w (coO x pa pc (some ⟨b, o, none⟩) lc) faZ
  have hmem := List.getElem_mem hi
  have hkd := hok.kind _ hmem
  generalize knAt (begs x.l) x.l i = K at HKN hwk ⊢
  have hw2 := two_box' w (coO x pa pc (some ⟨b, o, none⟩) lc) faZ
  obtain ⟨e0, e1, e2, e3, e4, e5, e6, e7, e8⟩ := hia.keep (hw2.2.2.1.block b hb)
  obtain ⟨c0, c1, c2, c3, c4⟩ := five hw2.1
  generalize x.l[i] = y at e0 e1 e2 e3 e4 e5 e6 e7 e8 hgc hn1 hr1 hkd ⊢
  have hi0 : (0 : Int) ≤ (i : Int) := by omega
  have hi1 : (i : Int) < (x.l.length : Int) := by omega
  clear hkn hf h hw2 hia hr1
  go_enter Try.func25, Try.ntmps25
  go_upto_region 1 with fail
  generalize World.alloc (World.alloc w _) _ = w1 at HL e0 e1 e2 e3 e4 e5 e6 e7 e8 c0 c1 c2 c3 c4 ⊢
  obtain ⟨hx1, hz1, hb1, hs1⟩ := HL.out
  have hy1 := heap_alloc_new w1 (irB y ga gc)
  rw [hs1] at hy1
  have hbb := bl_alloc (Below.refl w1.heap.size w1) (irB y ga gc)
  have HX2 : Hid _ := (hbb.block _ (lt_of_some hx1)).trans hx1
  have HZ2 : Hid _ := (hbb.block _ (lt_of_some hz1)).trans hz1
  have HY2 : Hid _ := hy1
  have HB2 : Hid _ := bl_then hb1 hbb
  go_upto_region 2 with fail
  generalize World.alloc w1 _ = w2 at HX2 HZ2 HY2 HB2 ⊢
  clear HL hx1 hz1 hb1 hy1 hbb e0 e1 e2 e3 e4 e5 e6 e7 e8 c0 c1 c2 c3 c4
  obtain ⟨c0, c1, c2, c3, c4⟩ := five HX2.out
  obtain ⟨e0, e1, e2, e3, e4, e5, e6, e7, e8⟩ := irB_at HY2.out
  have hka := HKN.out y.a w2 HB2.out
  go_upto_region 3 with (first | (go_at_call 43; refine hka.mono ?_; rintro e w3 ⟨rfl, hb3⟩))
  have hfa := heap_alloc_new w3 (.cells #[.bool (K y.a).isSome, .int .u32 (((K y.a).getD 0 : Nat) : Int)] 58)
  have hbb := bl_then hb3 (bl_alloc (Below.refl w3.heap.size w3) (.cells #[.bool (K y.a).isSome, .int .u32 (((K y.a).getD 0 : Nat) : Int)] 58))
  have HX4 : Hid _ := (hbb.block _ (lt_of_some HX2.out)).trans HX2.out
  have HZ4 : Hid _ := (hbb.block _ (lt_of_some HZ2.out)).trans HZ2.out
  have HY4 : Hid _ := (hbb.block _ (lt_of_some HY2.out)).trans HY2.out
  have HB4 : Hid _ := bl_then HB2.out hbb
  have HA4 : Hid _ := hfa
  generalize World.alloc w3 _ = w4 at HX4 HZ4 HY4 HB4 HA4 ⊢
  clear hka hb3 hfa hbb HX2 HZ2 HY2 HB2 c0 c1 c2 c3 c4 e0 e1 e2 e3 e4 e5 e6 e7 e8
  obtain ⟨c0, c1, c2, c3, c4⟩ := five HX4.out
  obtain ⟨e0, e1, e2, e3, e4, e5, e6, e7, e8⟩ := irB_at HY4.out
  have hkb := HKN.out y.b w4 HB4.out
  go_upto_region 4 with (first | (go_at_call 43; refine hkb.mono ?_; rintro e w5 ⟨rfl, hb5⟩))
  have hfb := heap_alloc_new w5 (.cells #[.bool (K y.b).isSome, .int .u32 (((K y.b).getD 0 : Nat) : Int)] 58)
  have hbb := bl_then hb5 (bl_alloc (Below.refl w5.heap.size w5) (.cells #[.bool (K y.b).isSome, .int .u32 (((K y.b).getD 0 : Nat) : Int)] 58))
  have HX6 : Hid _ := (hbb.block _ (lt_of_some HX4.out)).trans HX4.out
  have HZ6 : Hid _ := (hbb.block _ (lt_of_some HZ4.out)).trans HZ4.out
  have HY6 : Hid _ := (hbb.block _ (lt_of_some HY4.out)).trans HY4.out
  have HA6 : Hid _ := (hbb.block _ (lt_of_some HA4.out)).trans HA4.out
  have HB6 : Hid _ := bl_then HB4.out hbb
  have HC6 : Hid _ := hfb
  generalize World.alloc w5 _ = w6 at HX6 HZ6 HY6 HA6 HB6 HC6 ⊢
  clear hkb hb5 hfb hbb HX4 HZ4 HY4 HA4 HB4 c0 c1 c2 c3 c4 e0 e1 e2 e3 e4 e5 e6 e7 e8
  obtain ⟨c0, c1, c2, c3, c4⟩ := five HX6.out
  obtain ⟨e0, e1, e2, e3, e4, e5, e6, e7, e8⟩ := irB_at HY6.out
  obtain ⟨z0, z1⟩ := two HZ6.out
  have hfz := brow_free HZ6.out
  obtain ⟨a0, a1⟩ := two HA6.out
  obtain ⟨b0, b1⟩ := two HC6.out
  have hza := lt_of_some HZ6.out
  by_cases k1 : y.kind = 1
  · have HA : Hid (aft K y = some y.n) := aft_1 K k1
    generalize K y.a = va at a0 a1 HA6 ⊢
    generalize K y.b = vb at b0 b1 HC6 ⊢
    clear HKN
    go_wp2_with fail
    refine bodyPost_ret_by (results_row1 Try.results25 rfl (load_fa (set2F HZ6.out) rfl)) rfl ?_
    exact ⟨by rw [HA.out] <;> rfl, bl_set (bl_set HB6.out _ _ _ (by omega)) _ _ _ (by omega)⟩
  by_cases k2 : y.kind = 2
  · have HA : Hid (aft K y = K y.a) := by show _ = _; rw [aft_m K (mayW_yes (.inl k2)), worth_2 K k2]
    generalize K y.a = va at a0 a1 HA6 HA ⊢
    generalize K y.b = vb at b0 b1 HC6 ⊢
    clear HKN
    go_wp2_with fail
    refine bodyPost_ret_by (results_row1 Try.results25 rfl (load_fa (set2F HZ6.out) rfl)) rfl ?_
    exact ⟨by rw [HA.out] <;> rfl, bl_set (bl_set HB6.out _ _ _ (by omega)) _ _ _ (by omega)⟩
  by_cases k3 : y.kind = 3
  · have HA : Hid (aft K y = (K y.a).bind fun p => (K y.b).bind fun q => some (opz y.op p q).toNat) := by show _ = _; rw [aft_m K (mayW_yes (.inr (.inl k3))), worth_3 K k3]
    have hva := hwk y.a
    have hvb := hwk y.b
    generalize K y.a = va at a0 a1 HA6 HA hva ⊢
    generalize K y.b = vb at b0 b1 HC6 HA hvb ⊢
    clear HKN
    cases va with
    | none =>
      have HA' : Hid (aft K y = none) := by show _ = _; rw [HA.out]; rfl
      clear HA
      have HA := HA'
      simp only [Option.isSome_none, Option.getD_none] at a0 a1
      go_wp2_with fail
      refine bodyPost_ret_by (results_row1 Try.results25 rfl (load_fa (set2F HZ6.out) rfl)) rfl ?_
      exact ⟨by rw [HA.out] <;> rfl, bl_set (bl_set HB6.out _ _ _ (by omega)) _ _ _ (by omega)⟩
    | some p =>
      simp only [Option.isSome_some, Option.getD_some] at a0 a1
      cases vb with
      | none =>
        have HA' : Hid (aft K y = none) := by show _ = _; rw [HA.out]; rfl
        clear HA
        have HA := HA'
        simp only [Option.isSome_none, Option.getD_none] at b0 b1
        go_wp2_with fail
        refine bodyPost_ret_by (results_row1 Try.results25 rfl (load_fa (set2F HZ6.out) rfl)) rfl ?_
        exact ⟨by rw [HA.out] <;> rfl, bl_set (bl_set HB6.out _ _ _ (by omega)) _ _ _ (by omega)⟩
      | some q =>
        simp only [Option.isSome_some, Option.getD_some] at b0 b1
        have hp := hva p rfl
        have hq := hvb q rfl
        have HO := opz_bd y.op p q hp hq
        have HA' : Hid (aft K y = some (opz y.op (p : Int) (q : Int)).toNat) := by show _ = _; rw [HA.out]; rfl
        have hop := fun w' => Ref1.rop_any y.op (p : Int) (q : Int) (by omega) (by omega) (by omega) (by omega) w'
        rw [← HO] at hop
        generalize (opz y.op (p : Int) (q : Int)).toNat = m at hop HA'
        clear HA HO hva hvb
        go_wp2_with (first | (go_at_call 44; refine (hop _).mono ?_; rintro e w7 ⟨rfl, hb7⟩; have hz7 := (hb7.block _ (lt_of_some HZ6.out)).trans HZ6.out; obtain ⟨z0, z1⟩ := two hz7; have hfz7 := brow_free hz7))
        refine bodyPost_ret_by (results_row1 Try.results25 rfl (load_fa (set2F hz7) rfl)) rfl ?_
        exact ⟨by rw [HA'.out]; rfl, bl_set (bl_set (bl_then HB6.out hb7) _ _ _ (by omega)) _ _ _ (by omega)⟩
  by_cases k4 : y.kind = 4
  · have HA : Hid (aft K y = (K y.a).bind fun p => if p = 0 then K y.c else K y.b) := by show _ = _; rw [aft_m K (mayW_yes (.inr (.inr k4))), worth_4 K k4]
    have hkc := HKN.out y.c w6 HB6.out
    generalize K y.a = va at a0 a1 HA6 HA ⊢
    generalize K y.b = vb at b0 b1 HC6 HA ⊢
    generalize K y.c = vcc at hkc HA
    clear HKN
    cases va with
    | none =>
      have HA' : Hid (aft K y = none) := by show _ = _; rw [HA.out]; rfl
      clear HA hkc
      have HA := HA'
      simp only [Option.isSome_none, Option.getD_none] at a0 a1
      go_wp2_with fail
      refine bodyPost_ret_by (results_row1 Try.results25 rfl (load_fa (set2F HZ6.out) rfl)) rfl ?_
      exact ⟨by rw [HA.out] <;> rfl, bl_set (bl_set HB6.out _ _ _ (by omega)) _ _ _ (by omega)⟩
    | some p =>
      simp only [Option.isSome_some, Option.getD_some] at a0 a1
      by_cases hp : p = 0
      · subst hp
        have HA' : Hid (aft K y = vcc) := by show _ = _; rw [HA.out]; rfl
        clear HA
        have a1' : w6.cell? ⟨w3.heap.size, 1, none⟩ = some (.int .u32 0) := a1
        clear a1
        go_wp2_with (first | (go_at_call 43; refine hkc.mono ?_; rintro e w7 ⟨rfl, hb7⟩; have hz7 := (hb7.block _ (lt_of_some HZ6.out)).trans HZ6.out; obtain ⟨z0, z1⟩ := two hz7; have hfz7 := brow_free hz7))
        refine bodyPost_ret_by (results_row1 Try.results25 rfl (load_fa (set2F hz7) rfl)) rfl ?_
        exact ⟨by rw [HA'.out], bl_set (bl_set (bl_then HB6.out hb7) _ _ _ (by omega)) _ _ _ (by omega)⟩
      · have HA' : Hid (aft K y = vb) := by show _ = _; rw [HA.out]; exact if_neg hp
        clear HA hkc
        have HA := HA'
        have hpn : ((p : Int) == 0) = false := by rw [beq_eq_false_iff_ne]; omega
        go_wp2_with fail
        refine bodyPost_ret_by (results_row1 Try.results25 rfl (load_fa (set2F HZ6.out) rfl)) rfl ?_
        exact ⟨by rw [HA.out] <;> rfl, bl_set (bl_set HB6.out _ _ _ (by omega)) _ _ _ (by omega)⟩
  have HA : Hid (aft K y = none) := aft_no K k1 (mayW_not k2 k3 k4)
  have g1 : (y.kind == 1) = false := by simpa using k1
  have g2 : (y.kind == 2) = false := by simpa using k2
  have g3 : (y.kind == 3) = false := by simpa using k3
  have g4 : (y.kind == 4) = false := by simpa using k4
  generalize K y.a = va at a0 a1 HA6 ⊢
  generalize K y.b = vb at b0 b1 HC6 ⊢
  clear HKN
  go_wp2_with fail
  refine bodyPost_ret_by (results_row1 Try.results25 rfl (load_fa (set2F HZ6.out) rfl)) rfl ?_
  exact ⟨by rw [HA.out] <;> rfl, bl_set (bl_set HB6.out _ _ _ (by omega)) _ _ _ (by omega)⟩
end Go.Proofs.Ytclajapdbphlbaa
