/- CONTRACT of backwards. -/
import Derived.Test.YtndmkfmpdnoliaaDBackM
import Derived.Test.YtndmkfmpdnoliaaDIdle
import Derived.Sort.CutIn
import Derived.RegionIn
namespace Go.Proofs.Ytndmkfmpdnoliaa
open Go.ChangeShapes Go.WideShapes Go.ChangeAt Go.RowKit Go.Shelf

attribute [local go_sem] Oper.semAt_some

theorem bl_keeps {B : Nat} {W W' : World} (h : Below W.heap.size W W') : KeepsFrom B W W' := ⟨h.size, fun k _ _ hk _ => (h.block k (lt_of_some hk)).trans hk⟩
theorem kept_keeps {B b : Nat} {W W' : World} (h : Kept (fun k => k = b) W W') (hb : b < B) : KeepsFrom B W W' := ⟨h.size, fun k _ hk he _ => (h.block k (lt_of_some he) (by omega)).trans he⟩
theorem five_box (w : World) (o1 o2 o3 o4 o5 : Obj) : ∃ W, ((((w.alloc o1).alloc o2).alloc o3).alloc o4).alloc o5 = W ∧ W.heap[w.heap.size]? = some o1 ∧ W.heap[w.heap.size + 1]? = some o2 ∧ W.heap[w.heap.size + 1 + 1]? = some o3 ∧ W.heap[w.heap.size + 1 + 1 + 1]? = some o4 ∧ W.heap[w.heap.size + 1 + 1 + 1 + 1]? = some o5 ∧ W.heap.size = w.heap.size + 5 ∧ Below w.heap.size w W := by
  refine ⟨_, rfl, ?_, ?_, ?_, ?_, ?_, by simp, bl_alloc (bl_alloc (bl_alloc (bl_alloc (bl_alloc (Below.refl _ _) _) _) _) _) _⟩
  · rw [heap_alloc_old _ _ (by simp <;> omega), heap_alloc_old _ _ (by simp <;> omega), heap_alloc_old _ _ (by simp <;> omega), heap_alloc_old _ _ (by simp <;> omega)]; exact heap_alloc_new w o1
  · rw [heap_alloc_old _ _ (by simp <;> omega), heap_alloc_old _ _ (by simp <;> omega), heap_alloc_old _ _ (by simp <;> omega)]; simpa using heap_alloc_new (w.alloc o1) o2
  · rw [heap_alloc_old _ _ (by simp <;> omega), heap_alloc_old _ _ (by simp <;> omega)]; simpa using heap_alloc_new ((w.alloc o1).alloc o2) o3
  · rw [heap_alloc_old _ _ (by simp <;> omega)]; simpa using heap_alloc_new (((w.alloc o1).alloc o2).alloc o3) o4
  · simpa using heap_alloc_new ((((w.alloc o1).alloc o2).alloc o3).alloc o4) o5
theorem box_at {w : World} {b : Nat} {x : Value} {t : TypeId} (h : w.heap[b]? = some (.cells #[x] t)) : w.cell? ⟨b, 0, none⟩ = some x ∧ w.frozen? ⟨b, 0, none⟩ = false := by
  constructor <;> simp [World.cell?, World.frozen?, h]
set_option maxRecDepth 100000 in
set_option maxHeartbeats 4000000 in
theorem backwards_in {S : Nat → Prop} (w : World) (a : Option Addr) (l : List Ir) (c : Nat) (h : kIr.row w S a l) (hok : BackOk l) :
    CallsIn Fence.wide 6 Try.prog 36 #[.slice a l.length c] w fun e w' => e = .returned (.tuple #[.slice (some ⟨w.heap.size + 2, 0, none⟩) l.length l.length, .map (some (w.heap.size + 3))]) ∧ w'.heap[w.heap.size + 2]? = some (.cells (bvs (deadL l)) 4) ∧ Reg w' (w.heap.size + 3) (l.length * 1000000) (rdL l) ∧ Below w.heap.size w w' := by
  have hlen := hok.len
  obtain ⟨f, hf⟩ := row_f h
  have hmk := fun w => run_make_row' (P := Try.prog) 79 4 (.bool false) 1 Try.underlying79 bool_info rfl .i64 .i64 l.length (w := w) (by omega) (by omega)
  have hmm := @run_makeMap Try.prog
  simp only [made_bools] at hmk
  have hro : Fence.wide.round = none := rfl
  have hfB : Fence.wide.fn 60 := trivial
  have hfC : Fence.wide.fn 78 := trivial
  refine callsIn_of_wp_marks Try.func36 rfl trivial ?_ hro
  simp only [Try.ntmps36, List.size_toArray, List.length_cons, List.length_nil, Nat.reduceAdd, Nat.reduceSub, Array.replicate_succ, Array.replicate_zero, List.push_toArray, List.append_toArray, List.nil_append, List.cons_append]
  gi_wp2_with (gi_at_call 60; refine (back_in hfB hro _ _ _ _).mono ?_; rintro e w' ⟨rfl, rfl⟩)
  obtain ⟨W0, hW0, g2, g3, gd, gm, gs, hsz, hB0⟩ := five_box w (.cells #[.slice (some ⟨w.heap.size + 1 + 1, 0, none⟩) l.length l.length] 79) (.cells #[.map (some (w.heap.size + 1 + 1 + 1))] 81) (.cells (bvs (List.replicate l.length false)) 4) (.map #[] 0) (.cells #[.slice a l.length c] 37)
  rw [hW0]
  have hreg0 : Reg W0 (w.heap.size + 1 + 1 + 1) 0 [] := by
    rw [← hW0]
    have := Reg.made (((w.alloc (.cells #[.slice (some ⟨w.heap.size + 1 + 1, 0, none⟩) l.length l.length] 79)).alloc (.cells #[.map (some (w.heap.size + 1 + 1 + 1))] 81)).alloc (.cells (bvs (List.replicate l.length false)) 4))
    simp only [World.size_alloc] at this
    exact this.keep (heap_alloc_old _ _ (by simp))
  clear hW0 hmk hmm gm
  generalize hBs : w.heap.size + 1 + 1 + 1 + 1 = Bs at gs ⊢
  generalize hBm : w.heap.size + 1 + 1 + 1 = Bm at g3 hreg0 ⊢
  generalize hBd : w.heap.size + 1 + 1 = Bd at g2 gd ⊢
  generalize hB3 : w.heap.size + 1 = B3 at g3 ⊢
  obtain ⟨c6, hc6⟩ : ∃ c6 : Nat, c6 = 1000000 := ⟨_, rfl⟩
  refine wpIn_rangeFunc_ownH hro (by omega) (gf := 78) (lb := #[.pointer (some ⟨Bs, 0, none⟩)]) rfl hfC (enters_of Try.func78 (by kernel_rfl) rfl)
    (back_stops (n₀ := w.heap.size) hfC hro (by omega) (by omega) W0 (by omega) (by omega) (box_at gs).1 (f := f) (fun k hk => by
      obtain ⟨b, o, h1, _, h2, h3, _⟩ := hf k hk
      exact ⟨b, o, h1, h2, h3.keep (hB0.block b h2)⟩)) (fun h k => h.trans k) (fun W lp o o' hlp hl1 hl2 hl3 => ⟨belowK_b (w := W0) (by omega) W lp o o' hlp hl1 hl2 hl3, World.putObj_heap_other (by omega)⟩) (Below.refl _ _) (fun _ => rfl)
    (fun pre W => (W.heap[w.heap.size]? = some (.cells #[.slice (some ⟨Bd, 0, none⟩) l.length l.length] 79) ∧ W.heap[B3]? = some (.cells #[.map (some Bm)] 81) ∧ W.heap[Bd]? = some (.cells (bvs (stF l pre).1) 4) ∧ Reg W Bm (pre.length * c6) (stF l pre).2 ∧ Bs < W.heap.size) ∧ Below w.heap.size w W)
    (fun _ _ _ => False)
    (OwnFrom.and (fun pre A B row hs hg hr => by
      have hk : ∀ j, j < W0.heap.size → j < A.heap.size → B.heap[j]? = A.heap[j]? := fun j hj hja => hg.block j hja (fun e => by have := (hr j e.symm).1; omega)
      obtain ⟨s1, s2, s3, s4, s5⟩ := hs
      exact ⟨(hk _ (by omega) (lt_of_some s1)).trans s1, (hk _ (by omega) (lt_of_some s2)).trans s2, (hk _ (by omega) (lt_of_some s3)).trans s3, s4.keep (hk _ (by omega) s4.lt), Nat.lt_of_lt_of_le s5 hg.size⟩) (ownFrom_below (Nat.le_refl _) (by omega)))
    (fun _ _ _ _ _ hs _ _ => hs)
    ⟨⟨g2, g3, gd, by simpa [stF] using hreg0, by omega⟩, hB0⟩
    (fun x a' W => ∃ Bx, Bs < Bx ∧ W.heap[Bx]? = some (irB (l[x.1]'x.2) (f x.1).1 (f x.1).2) ∧ a' = { tmps := #[.slice a l.length c, undef, .pointer (some ⟨w.heap.size, 0, none⟩), .pointer (some ⟨B3, 0, none⟩), .int .i64 (x.1 : Int), .pointer (some ⟨Bx, 0, none⟩), undef, undef, undef, undef, .slice a l.length c, .int .i64 (l.length : Int), .slice (some ⟨Bd, 0, none⟩) l.length l.length, .map (some Bm), .slice a l.length c, .func (.func 78) #[] #[.pointer (some ⟨Bs, 0, none⟩)], .int .i64 (x.1 : Int), irV (l[x.1]'x.2) (f x.1).1 (f x.1).2, undef, undef, undef, undef, undef, undef, undef, undef, undef, undef, undef, undef, undef, undef, undef, undef, undef, undef, undef, undef, undef, undef, undef, undef, undef, undef, undef, undef, undef], defers := [] })
    (fun x a' _ X Y row hs hg hr => by
      obtain ⟨Bx, h1, h2, h3⟩ := hs
      refine ⟨Bx, h1, (hg.block Bx (lt_of_some h2) (fun e => ?_)).trans h2, h3⟩
      obtain ⟨_, o, ho, hc⟩ := hr Bx e.symm
      rw [h2] at ho
      cases ho
      cases hc) ?assign ?body ?done ?stop
  case assign =>
    rintro lp pre ⟨k, hk⟩ W K ⟨⟨s1, s2, s3, s4, s5⟩, hB⟩ hK
    simp only [encP, irV]
    gi_wp2
    exact hK _ _ ((KeepsOthers.alloc _ _).from _) ⟨(Below.refl _ W).alloc hB.size _, heap_alloc_old _ _ s5⟩ ⟨⟨(heap_alloc_old _ _ (lt_of_some s1)).trans s1, (heap_alloc_old _ _ (lt_of_some s2)).trans s2, (heap_alloc_old _ _ (lt_of_some s3)).trans s3, s4.keep (heap_alloc_old _ _ s4.lt), by simp; omega⟩, hB.alloc hB.size _⟩ ⟨W.heap.size, s5, heap_alloc_new W _, rfl⟩
  case body =>
    rintro lp pre ⟨k, hk⟩ a' W _ _ ⟨⟨s1, s2, s3, s4, s5⟩, hB⟩ ⟨Bx, hBx, bX, rfl⟩ hlt
    obtain ⟨b0, o0, ea, hS, hb0, _, hgc, hn, hrow⟩ := hf k hk
    have hmem : l[k] ∈ l := List.getElem_mem hk
    have hST : stF l (pre ++ [⟨k, hk⟩]) = if deadX (stF l pre).2 l[k] then ((stF l pre).1.set k true, (stF l pre).2) else ((stF l pre).1, readsL l[k] ++ (stF l pre).2) := stF_snoc l pre ⟨k, hk⟩
    have hSL := stF_len l pre
    simp only at bX ⊢
    generalize l[k] = y at bX hgc hn hrow hmem hST ⊢
    generalize f k = fk at bX hgc hrow ⊢
    obtain ⟨ga, gc⟩ := fk
    simp only at bX hgc hrow ⊢
    generalize (stF l pre).1 = sd at s3 hST hSL
    generalize (stF l pre).2 = sr at s4 hST
    have hd := hok.dst y hmem
    have hlk := s4.look hd.1 hd.2
    obtain ⟨cn, hcn⟩ : ∃ cn, sr.contains y.d = cn := ⟨_, rfl⟩
    rw [hcn] at hlk
    have hDX : deadX sr y = (idleB y && !cn) := by unfold deadX; rw [hcn]
    rw [hDX] at hST
    obtain ⟨c2, f2⟩ := box_at s1
    obtain ⟨c3, f3⟩ := box_at s2
    obtain ⟨i0, i1, i2, i3, i4, i5, i6, i7, i8⟩ := irB_at bX
    unfold irV
    have HF : Hid (∀ (Wz : World) (sd' : List Bool) (sr' : List Int), Kept (fun j => j = Bd ∨ j = Bm) W Wz → Wz.heap[Bd]? = some (.cells (bvs sd') 4) → Reg Wz Bm (pre.length * c6 + c6) sr' → stF l (pre ++ [⟨k, hk⟩]) = (sd', sr') →
        KeepsFrom W0.heap.size W Wz ∧ KpB w.heap.size Bs W Wz ∧ ((Wz.heap[w.heap.size]? = some (.cells #[.slice (some ⟨Bd, 0, none⟩) l.length l.length] 79) ∧ Wz.heap[B3]? = some (.cells #[.map (some Bm)] 81) ∧ Wz.heap[Bd]? = some (.cells (bvs (stF l (pre ++ [⟨k, hk⟩])).1) 4) ∧ Reg Wz Bm ((pre ++ [(⟨k, hk⟩ : Pl l.length)]).length * c6) (stF l (pre ++ [⟨k, hk⟩])).2 ∧ Bs < Wz.heap.size) ∧ Below w.heap.size w Wz)) := fun Wz sd' sr' hK hd' hr' he => by
      have hb : Below w.heap.size W Wz := hK.below hB.size fun j hj => by omega
      rw [he]
      refine ⟨⟨hK.size, fun j _ hj1 hj2 _ => (hK.block j (lt_of_some hj2) (by omega)).trans hj2⟩, ⟨hb, hK.block Bs s5 (by omega)⟩, ⟨(hK.block _ (lt_of_some s1) (by omega)).trans s1, (hK.block _ (lt_of_some s2) (by omega)).trans s2, hd', ?_, Nat.lt_of_lt_of_le s5 hK.size⟩, hB.trans hb⟩
      rw [List.length_append, List.length_singleton, Nat.succ_mul]
      exact hr'
    clear hDX hcn
    gi_upto_region 6 with fail
    have HB5 : Below W.heap.size W (W.alloc (.cells #[] 88)) := bl_alloc (Below.refl _ _) _
    have hk0 : (0 : Int) ≤ (k : Int) := by omega
    have hk1 : (k : Int) < (l.length : Int) := by omega
    clear i0 i1 i2 i3 i4 i5 i6 i7 i8 c2 c3 f2 f3 hlk
    generalize W.alloc (.cells #[] 88) = W5 at HB5 ⊢
    have bX5 := (HB5.block _ (lt_of_some bX)).trans bX
    have hid := isIdle_any y ga gc W5
    unfold irV at hid
    obtain ⟨i0, i1, i2, i3, i4, i5, i6, i7, i8⟩ := irB_at bX5
    by_cases hdead : idleB y = true ∧ cn = false
    · obtain ⟨hy, rfl⟩ := hdead
      rw [hy] at hST hid
      simp only [Bool.not_false, Bool.and_self, if_true] at hST
      gi_upto_region 7 with (refine ⟨trivial, ?_⟩; gi_at_call 61; refine (CallsIn.inRound lp (callsIn_wide.2 hid)).mono ?_; rintro e W6 ⟨rfl, hB6⟩)
      have HB6 := bl_then HB5 hB6
      have s16 := (HB6.block _ (lt_of_some s1)).trans s1
      have s26 := (HB6.block _ (lt_of_some s2)).trans s2
      have s36 := (HB6.block _ (lt_of_some s3)).trans s3
      have s46 := s4.keep (HB6.block _ s4.lt)
      obtain ⟨c2, f2⟩ := box_at s16
      have hca := brow_cell s36 (k := k) (by omega)
      have hfr := brow_free s36
      have hset := brow_set s36 k
      have hz6 := HB6.size
      clear hid i0 i1 i2 i3 i4 i5 i6 i7 i8 bX5
      gi_wp2
      exact HF.out _ _ _ ((Below.kept HB6 (fun j => j = Bd ∨ j = Bm)).set_in Bd k (.bool true) (.inl rfl)) hset ((s46.keep (setCell_other (by omega))).more (by omega)) hST
    · have hgo : (idleB y && !cn) = false := by
        cases h1 : idleB y <;> cases h2 : cn <;> simp_all
      rw [hgo] at hST
      simp only [Bool.false_eq_true, if_false] at hST
      have hcase : cn = true ∨ (cn = false ∧ idleB y = false) := by
        cases h1 : idleB y <;> cases h2 : cn <;> simp_all
      have hrl : (readsL y).length ≤ c6 := by rw [hc6]; exact readsL_len (hok.args y hmem) (by omega)
      have hri := hok.reg y hmem
      clear hgo hdead
      have hst8 : ∀ W6, Below W.heap.size W W6 → ∃ (_ : Below W.heap.size W W6), W6.heap[B3]? = some (.cells #[.map (some Bm)] 81) ∧ W6.heap[Bd]? = some (.cells (bvs sd) 4) ∧ Reg W6 Bm (pre.length * c6) sr ∧ W6.heap[Bx]? = some (irB y ga gc) ∧ kInt.row W6 S ga y.args := fun W6 hb =>
        ⟨hb, (hb.block _ (lt_of_some s2)).trans s2, (hb.block _ (lt_of_some s3)).trans s3, s4.keep (hb.block _ s4.lt), (hb.block _ (lt_of_some bX)).trans bX, kInt.row_mono (by decide) hrow fun j hj hlt => ⟨hj, (hb.block j (by have := hB.size; omega)).trans (hB.block j hlt)⟩⟩
      have H8 : Hid _ := hst8
      clear hst8 s1 s2 s3 s4 bX
      rcases hcase with rfl | ⟨rfl, hy⟩
      case' inl =>
        gi_upto_region 8 with fail
        refine ⟨trivial, ?_⟩
        gi_upto_region 8 with fail
        obtain ⟨W6, hW6⟩ : ∃ W6, W6 = W5 := ⟨_, rfl⟩
        rw [← hW6] at HB5 ⊢
        have HB6 := HB5
        clear hid i0 i1 i2 i3 i4 i5 i6 i7 i8 bX5 hW6 HB5
      case' inr =>
        rw [hy] at hid
        gi_upto_region 8 with (refine ⟨trivial, ?_⟩; gi_at_call 61; refine (CallsIn.inRound lp (callsIn_wide.2 hid)).mono ?_; rintro e W6 ⟨rfl, hB6⟩)
        have HB6 := bl_then HB5 hB6
        clear hid i0 i1 i2 i3 i4 i5 i6 i7 i8 bX5 HB5 hB6 hy
      all_goals
        obtain ⟨_, s26, s36, s46, bX6, hrow6⟩ := H8.out W6 HB6
        obtain ⟨i0, i1, i2, i3, i4, i5, i6, i7, i8⟩ := irB_at bX6
        have hrd := dreads_any y ga gc W6 hrow6 hgc
        unfold irV at hrd
        gi_upto_region 9 with (refine ⟨trivial, ?_⟩; gi_at_call 62; refine (CallsIn.inRound lp (callsIn_wide.2 hrd)).mono ?_; rintro e W8 ⟨⟨v8, rfl, a8, c8, rfl, hrow8, hc8⟩, hB8⟩)
        have HB8 := bl_then HB6 hB8
        obtain ⟨_, s28, s38, s48, _, _⟩ := H8.out W8 HB8
        have S28 : Hid _ := s28
        have S38 : Hid _ := s38
        clear hrd i0 i1 i2 i3 i4 i5 i6 i7 i8 bX6 hrow6 s26 s36 s46 hB8 HB6 H8 s28 s38
        gi_loopw [37] (fun j wr => ∃ m : Nat, m ≤ (readsL y).length ∧ j = .int .i64 m ∧ Reg wr Bm (pre.length * c6 + m) (((readsL y).take m).reverse ++ sr) ∧ Kept (fun j => j = Bm) W8 wr) (fun j _ => (readsL y).length - (intOf j).toNat)
        case atStart => exact ⟨0, Nat.zero_le _, rfl, by simpa using s48, Kept.refl _ _⟩
        case round =>
          obtain ⟨m, hm, rfl, hreg, hkept⟩ := hrel
          by_cases hmt : m < (readsL y).length
          · obtain ⟨b9, o9, rfl, _, hb9, hc9⟩ := int_at hrow8 m hmt
            have hne : b9 ≠ Bm := by
              rintro rfl
              obtain ⟨es, ck, hmp⟩ := s48.isMap
              simp [World.cell?, hmp] at hc9
            have hc9' : wr.cell? ⟨b9, o9 + m, none⟩ = some (.int .i64 (readsL y)[m]) := by rw [World.cell?_of_block (hkept.block b9 hb9 hne)]; exact hc9
            have hc3 := (box_at ((hkept.block B3 (lt_of_some S28.out) (by omega)).trans S28.out)).1
            have hrr := hri (readsL y)[m] (List.getElem_mem hmt)
            have hTK : Hid ((((readsL y).take (m + 1)).reverse ++ sr) = (readsL y)[m] :: (((readsL y).take m).reverse ++ sr)) := by show _ = _; rw [List.take_succ_eq_append_getElem hmt, List.reverse_append]; rfl
            have hpl : pre.length * c6 + m < maxLen := by
              have h1 : pre.length * c6 ≤ 10000 * c6 := Nat.mul_le_mul_right _ (by omega)
              rw [hc6] at h1 hrl ⊢
              unfold maxLen
              omega
            generalize (readsL y)[m] = r at hc9' hrr hTK
            obtain ⟨wz, hrun, hregz, hgz, hszz⟩ := hreg.put hpl hrr.1 hrr.2
            have HRZ : Hid (Reg wz Bm (pre.length * c6 + (m + 1)) (((readsL y).take (m + 1)).reverse ++ sr)) := by show Reg _ _ _ _; rw [hTK.out]; exact hregz
            have HKZ : Hid _ := hkept.trans ((Kept.of_grown hgz).mono fun j _ e => (Option.some.inj e).symm)
            clear hreg hkept hc9 hTK hregz hgz hszz hpl
            gi_wp2
            go_roundw
            case rel => exact ⟨m + 1, by omega, by go_num, HRZ.out, HKZ.out⟩
            case measure => simp [intOf]; omega
          · have hR2 : Reg wr Bm (pre.length * c6 + c6) (readsL y ++ sr) := (hreg.more (by omega)).congr fun r => by
              rw [List.take_of_length_le (by omega), Bool.eq_iff_iff]
              simp only [List.contains_iff_mem, List.mem_append, List.mem_reverse]
            have hK2 : Kept (fun j => j = Bd ∨ j = Bm) W wr := (Below.kept HB8 _).trans (hkept.mono fun j _ e => .inr e)
            have hd2 := (hkept.block Bd (lt_of_some S38.out) (by omega)).trans S38.out
            have HE : Hid _ := HF.out _ _ _ hK2 hd2 hR2 hST
            clear hreg hkept hR2 hK2 hd2
            gi_wp2
            exact HE.out
  case done =>
    rintro D ys W hD rfl ⟨⟨s1, s2, s3, s4, s5⟩, hB⟩ hK
    rw [stF_all] at s3 s4
    rw [downs_len _ _ (Nat.le_refl _)] at s4
    obtain ⟨c2, f2⟩ := box_at s1
    obtain ⟨c3, f3⟩ := box_at s2
    have hmx : Try.prog.follows .mixedOrders = true := by kernel_rfl
    gi_upto_region 13 with fail
    gi_region
    obtain ⟨WZ, hWZ⟩ : ∃ WZ, ((W.setCell ⟨w.heap.size, 0, none⟩ (.slice (some ⟨Bd, 0, none⟩) l.length l.length)).setCell ⟨B3, 0, none⟩ (.map (some Bm))).drew = WZ := ⟨_, rfl⟩
    rw [hWZ]
    have e1 : ∀ j : Nat, WZ.heap[j]? = ((W.setCell ⟨w.heap.size, 0, none⟩ (.slice (some ⟨Bd, 0, none⟩) l.length l.length)).setCell ⟨B3, 0, none⟩ (.map (some Bm))).heap[j]? := fun j => by rw [← hWZ]; rfl
    have z1 : WZ.heap[w.heap.size]? = some (.cells #[.slice (some ⟨Bd, 0, none⟩) l.length l.length] 79) := (e1 _).trans ((setCell_other (by omega)).trans (setCell_at s1))
    have z2 : WZ.heap[B3]? = some (.cells #[.map (some Bm)] 81) := (e1 _).trans (setCell_at ((setCell_other (by omega)).trans s2))
    have zo : ∀ j : Nat, j ≠ w.heap.size → j ≠ B3 → WZ.heap[j]? = W.heap[j]? := fun j h1 h2 => (e1 j).trans ((setCell_other h2).trans (setCell_other h1))
    have zB : Below w.heap.size W WZ := by
      rw [← hWZ]
      exact ((Kept.set_in (Kept.set_in (Kept.refl (fun j => j = w.heap.size ∨ j = B3) W) w.heap.size 0 _ (.inl rfl)) B3 0 _ (.inr rfl)).drew).below hB.size fun j hj => by omega
    have hKZ := (zo D (by omega) (by omega)).trans hK
    have z3 := (zo Bd (by omega) (by omega)).trans s3
    have z4 := s4.keep (zo Bm (by omega) (by omega))
    clear hWZ e1
    gi_wp2
    refine ⟨by simp, .inl ⟨_, _, rfl, run_takeDeferred hKZ, ?_⟩⟩
    have hg := grownBy_putObj' WZ D (.deferred none)
    have q1 := (hg.block _ (lt_of_some z1) (fun e => by have := Option.some.inj e; omega)).trans z1
    have q2 := (hg.block _ (lt_of_some z2) (fun e => by have := Option.some.inj e; omega)).trans z2
    have q3 := (hg.block _ (lt_of_some z3) (fun e => by have := Option.some.inj e; omega)).trans z3
    have q4 := z4.keep (hg.block _ z4.lt (fun e => by have := Option.some.inj e; omega))
    have hc5 := (box_at q1).1
    have hc6' := (box_at q2).1
    refine ⟨.tuple #[.slice (some ⟨Bd, 0, none⟩) l.length l.length, .map (some Bm)], ?_, ?_⟩
    · simp [results, Try.f36, go_sem, hc5, hc6']
    · subst hBd hBm
      rw [hc6] at q4
      exact ⟨rfl, q3, q4, (hB.trans zB).trans (belowK_b (w := w) (Nat.le_refl _) WZ D _ _ (by omega) hKZ rfl rfl)⟩
  case stop =>
    rintro D c pre W _ _ h _
    exact h.elim
theorem backwards_any {S : Nat → Prop} (w : World) (a : Option Addr) (l : List Ir) (c : Nat) (h : kIr.row w S a l) (hok : BackOk l) :
    Calls Try.prog 36 #[.slice a l.length c] w fun e w' => e = .returned (.tuple #[.slice (some ⟨w.heap.size + 2, 0, none⟩) l.length l.length, .map (some (w.heap.size + 3))]) ∧ w'.heap[w.heap.size + 2]? = some (.cells (bvs (deadL l)) 4) ∧ Reg w' (w.heap.size + 3) (l.length * 1000000) (rdL l) ∧ Below w.heap.size w w' :=
  (callsIn_wide (n := 6)).1 (backwards_in w a l c h hok)
end Go.Proofs.Ytndmkfmpdnoliaa
