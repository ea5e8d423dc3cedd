/- CONTRACT of the reference's begin. -/
import Derived.Test.YtndmkfmpdnoliaaIRRight
import Derived.Test.YtndmkfmpdnoliaaIBegin2
import Derived.Test.YtndmkfmpdnoliaaIModel
import Derived.Deep.CutBlock
namespace Go.Proofs.Ytndmkfmpdnoliaa
open Go.ChangeShapes Go.WideShapes Go.ChangeAt Go.RowKit

/-- Registers and cells under way: the arguments of the first k parameters stand there. -/
structure RBeg (w2 : World) (G C : Nat) (ps : List Ty) (nr nc : Nat) (ar : List Nat) (k : Nat) (ws cs : List Nat) (wr : World) : Prop where
  split : splitA ps ar = (ws ++ (splitA (ps.drop k) (ar.drop (ws.length + cs.length))).1, cs ++ (splitA (ps.drop k) (ar.drop (ws.length + cs.length))).2)
  words : ws.length + wordsN (ps.drop k) = wordsN ps
  cells : (cs.length : Int) + cellsN (ps.drop k) = cellsN ps
  g : wr.heap[G]? = some (.cells (wvs (fill ws nr)) 26)
  c : wr.heap[C]? = some (.cells (wvs (fill cs nc)) 26)
  kept : Kept (fun b => b = G ∨ b = C) w2 wr
theorem RBeg.start {w2 : World} {G C : Nat} {ps : List Ty} {nr nc : Nat} {ar : List Nat} (hg : w2.heap[G]? = some (.cells (wvs (List.replicate nr 0)) 26)) (hc : w2.heap[C]? = some (.cells (wvs (List.replicate nc 0)) 26)) : RBeg w2 G C ps nr nc ar 0 [] [] w2 :=
  ⟨by simp, by simp, by simp, by rw [fill_nil]; exact hg, by rw [fill_nil]; exact hc, Kept.refl _ _⟩
theorem RBeg.word {w2 wr : World} {G C : Nat} {ps : List Ty} {nr nc : Nat} {ar : List Nat} {k : Nat} {ws cs : List Nat} (h : RBeg w2 G C ps nr nc ar k ws cs wr) (hGC : G ≠ C) (hk : k < ps.length) (hz : ps[k].len = 0) (hnr : wordsN ps ≤ nr) (ha : ws.length + cs.length < ar.length) :
    RBeg w2 G C ps nr nc ar (k + 1) (ws ++ [ar[ws.length + cs.length]]) cs (wr.setCell ⟨G, ws.length, none⟩ (wv ar[ws.length + cs.length])) := by
  have hdr : ps.drop k = ps[k] :: ps.drop (k + 1) := List.drop_eq_getElem_cons hk
  have har : ar.drop (ws.length + cs.length) = ar[ws.length + cs.length] :: ar.drop (ws.length + cs.length + 1) := List.drop_eq_getElem_cons ha
  have hw := h.words
  have hc := h.cells
  rw [hdr, wordsN, if_pos hz] at hw
  rw [hdr, cellsN, hz] at hc
  refine ⟨?_, by rw [List.length_append, List.length_singleton]; omega, by omega, ?_, ?_, h.kept.set_in _ _ _ (.inl rfl)⟩
  · have hs := h.split
    rw [hdr, har, splitA_word hz] at hs
    simp only [List.headD_cons, List.tail_cons] at hs
    rw [hs, List.length_append, List.length_singleton, List.append_assoc, show ws.length + 1 + cs.length = ws.length + cs.length + 1 by omega]
    rfl
  · rw [setCell_at h.g, wvs_set, fill_set (by omega)]
  · rw [setCell_other (fun e => hGC e.symm)]; exact h.c
/-- Within a parameter that is an array. -/
structure RIn (w2 : World) (G C : Nat) (nr nc : Nat) (ar : List Nat) (ws cs : List Nat) (j : Nat) (wr : World) : Prop where
  g : wr.heap[G]? = some (.cells (wvs (fill ws nr)) 26)
  c : wr.heap[C]? = some (.cells (wvs (fill (cs ++ (ar.drop (ws.length + cs.length)).take j) nc)) 26)
  kept : Kept (fun b => b = G ∨ b = C) w2 wr
theorem RIn.next {w2 wr : World} {G C : Nat} {nr nc : Nat} {ar : List Nat} {ws cs : List Nat} {j : Nat} (h : RIn w2 G C nr nc ar ws cs j wr) (hGC : G ≠ C) (hj : ws.length + cs.length + j < ar.length) (hnc : cs.length + j < nc) :
    RIn w2 G C nr nc ar ws cs (j + 1) (wr.setCell ⟨C, cs.length + j, none⟩ (wv ar[ws.length + cs.length + j])) := by
  have hl : (cs ++ (ar.drop (ws.length + cs.length)).take j).length = cs.length + j := by
    rw [List.length_append, List.length_take, List.length_drop]; omega
  have ht : (ar.drop (ws.length + cs.length)).take (j + 1) = (ar.drop (ws.length + cs.length)).take j ++ [ar[ws.length + cs.length + j]] := by
    rw [List.take_add_one, List.getElem?_drop, List.getElem?_eq_getElem hj]; rfl
  refine ⟨by rw [setCell_other hGC]; exact h.g, ?_, h.kept.set_in _ _ _ (.inr rfl)⟩
  rw [setCell_at h.c, wvs_set, ht, ← List.append_assoc, ← hl, fill_set (by rw [hl]; exact hnc)]
theorem RBeg.row {w2 wr : World} {G C : Nat} {ps : List Ty} {nr nc : Nat} {ar : List Nat} {k n : Nat} {ws cs : List Nat} {w0 : World} (h0 : RBeg w2 G C ps nr nc ar k ws cs w0) (h : RIn w2 G C nr nc ar ws cs n wr) (hk : k < ps.length) (hn : ps[k].len = n) (hz : n ≠ 0) (ha : ws.length + cs.length + n ≤ ar.length) :
    RBeg w2 G C ps nr nc ar (k + 1) ws (cs ++ (ar.drop (ws.length + cs.length)).take n) wr ∧ (cs ++ (ar.drop (ws.length + cs.length)).take n).length = cs.length + n := by
  have hdr : ps.drop k = ps[k] :: ps.drop (k + 1) := List.drop_eq_getElem_cons hk
  have hz' : ¬ ps[k].len = 0 := by omega
  have hw := h0.words
  have hc := h0.cells
  rw [hdr, wordsN, if_neg hz'] at hw
  rw [hdr, cellsN, hn] at hc
  have hl : (cs ++ (ar.drop (ws.length + cs.length)).take n).length = cs.length + n := by
    rw [List.length_append, List.length_take, List.length_drop]; omega
  refine ⟨⟨?_, by omega, by rw [hl]; omega, h.g, h.c, h.kept⟩, hl⟩
  have hs := h0.split
  rw [hdr, splitA_row hz', hn] at hs
  simp only [Int.toNat_natCast] at hs
  rw [hs, hl, List.append_assoc, List.drop_drop, show ws.length + (cs.length + n) = ws.length + cs.length + n by omega]
set_option maxRecDepth 100000 in
set_option maxHeartbeats 8000000 in
theorem refBegin_any (nm : List UInt8) (ps : List Ty) (nr nc : Nat) (l : List Ir) (pa : Option Addr) (pc : Nat) (la : Option Addr) (lc : Nat) (ar : List Nat) (aa : Option Addr) (ac : Nat) (w : World) (hps : kTy.row w (fun _ => True) pa ps) (har : kWd.row w (fun _ => True) aa ar)
    (hp6 : ps.length ≤ 6) (hok : ps.all tyOk = true) (hnr : wordsN ps ≤ nr) (hnr2 : nr ≤ 10000) (hnc : cellsN ps ≤ nc) (hnc2 : nc ≤ 4096) (hlen : (ar.length : Int) = wordsN ps + cellsN ps) :
    Calls Try.prog 55 #[.agg #[.string (bs nm), .slice pa ps.length pc, .int .i64 (nr : Int), .int .i64 (nc : Int), .slice la l.length lc], .slice aa ar.length ac] w fun e w' => e = .returned (.tuple #[.slice (some ⟨w.heap.size + 1, 0, none⟩) nr nr, .slice (some ⟨w.heap.size + 2, 0, none⟩) nc nc, .int .i64 (cellsN ps)]) ∧
      w'.heap[w.heap.size + 1]? = some (.cells (wvs (fill (splitA ps ar).1 nr)) 26) ∧ w'.heap[w.heap.size + 2]? = some (.cells (wvs (fill (splitA ps ar).2 nc)) 26) ∧ Below w.heap.size w w' ∧ w.heap.size + 3 ≤ w'.heap.size := by
  have hmk := fun n (hn : n ≤ 10000) => run_make_row' (P := Try.prog) 23 26 (.int .u32 0) 4 Try.underlying23 wd_info rfl .i64 .i64 n (by omega) (by omega)
  have hm1 := hmk nr (by omega)
  have hm2 := hmk nc (by omega)
  simp only [made_eq] at hm1 hm2
  clear hmk
  have hX : ∀ (O1 O2 O3 : Obj), (((w.alloc O1).alloc O2).alloc O3).heap[w.heap.size]? = some O1 ∧ (((w.alloc O1).alloc O2).alloc O3).heap[w.heap.size + 1]? = some O2 ∧ (((w.alloc O1).alloc O2).alloc O3).heap[w.heap.size + 2]? = some O3 ∧ Below w.heap.size w (((w.alloc O1).alloc O2).alloc O3) ∧ (((w.alloc O1).alloc O2).alloc O3).heap.size = w.heap.size + 3 := fun O1 O2 O3 => by
    have h1 := heap_alloc_new (w.alloc O1) O2
    have h2 := heap_alloc_new ((w.alloc O1).alloc O2) O3
    refine ⟨?_, ?_, ?_, bl_alloc (bl_alloc (bl_alloc (Below.refl _ _) _) _) _, by simp⟩
    · rw [heap_alloc_old _ _ (by simp; omega), heap_alloc_old _ _ (by simp)]; exact heap_alloc_new w _
    · rw [heap_alloc_old _ _ (by simp)]; simpa using h1
    · simpa using h2
  have HX : Hid _ := hX (.cells #[.string (bs nm), .slice pa ps.length pc, .int .i64 (nr : Int), .int .i64 (nc : Int), .slice la l.length lc] 39) (.cells (wvs (List.replicate nr 0)) 26) (.cells (wvs (List.replicate nc 0)) 26)
  clear hX
  go_enter Try.func55, Try.ntmps55
  go_upto_region 7 with fail
  generalize World.alloc (World.alloc (World.alloc w _) _) _ = w2 at HX ⊢
  obtain ⟨hbox, hgg, hcc, hb2, hz2⟩ := HX.out
  have hS0 : RBeg w2 (w.heap.size + 1) (w.heap.size + 2) ps nr nc ar 0 [] [] w2 := RBeg.start hgg hcc
  have HB2 : Hid _ := hb2
  have HZ2 : Hid _ := hz2
  have HBX : Hid _ := hbox
  have hGC : w.heap.size + 1 ≠ w.heap.size + 2 := by omega
  clear hbox hgg hcc hb2 hz2 HX hm1 hm2
  go_loopw [9, 10, 11, 12] (fun a9 n10 n11 i wr => ∃ k ws cs, k ≤ ps.length ∧ i = .int .i64 (k : Nat) ∧ n10 = .int .i64 ((List.length (α := Nat) ws : Nat) : Int) ∧ n11 = .int .i64 ((List.length (α := Nat) cs : Nat) : Int) ∧ a9 = .int .i64 ((List.length ws + List.length cs : Nat) : Int) ∧ RBeg w2 (w.heap.size + 1) (w.heap.size + 2) ps nr nc ar k ws cs wr) (fun _ _ _ i _ => ps.length - (intOf i).toNat)
  case atStart => exact ⟨0, [], [], Nat.zero_le _, rfl, rfl, rfl, rfl, hS0⟩
  case round =>
    obtain ⟨k, ws, cs, hk, rfl, rfl, rfl, rfl, hRB⟩ := hrel
    have HR : Hid _ := hRB
    have hkp : ∀ b, b < w2.heap.size → b ≠ w.heap.size + 1 → b ≠ w.heap.size + 2 → wr.heap[b]? = w2.heap[b]? := fun b hlt h1 h2 => hRB.kept.block b hlt (by rintro (e | e); exact h1 e; exact h2 e)
    have hbxr : wr.heap[w.heap.size]? = _ := (hkp w.heap.size (by rw [HZ2.out]; omega) (by omega) (by omega)).trans HBX.out
    have hold : ∀ {b o : Nat} {v : Value}, b < w.heap.size → w.cell? ⟨b, o, none⟩ = some v → wr.cell? ⟨b, o, none⟩ = some v := fun {b o v} hlt hc => by
      rw [World.cell?_of_block (w := w) ((hkp b (by rw [HZ2.out]; omega) (by omega) (by omega)).trans (HB2.out.block b hlt))]; exact hc
    have hwd := hRB.words
    have hcd := hRB.cells
    have hwl : wordsN ps ≤ 6 := Nat.le_trans (wordsN_bd ps) hp6
    have hcl := cellsN_bd ps hok
    obtain ⟨y0, y1, y2, y3, y4⟩ := co_block (x := ⟨nm, ps, nr, nc, l⟩) hbxr
    simp only at y0 y1 y2 y3 y4
    clear hS0
    by_cases hlt : k < ps.length
    · obtain ⟨b, o, rfl, hSb, hb, h0, h1⟩ := ty_at hps k hlt
      have e1 := hold hb h1
      have hty : tyOk ps[k] = true := (List.all_eq_true.1 hok) _ (List.getElem_mem hlt)
      simp only [tyOk, Bool.and_eq_true, decide_eq_true_eq] at hty
      obtain ⟨t0, t1⟩ := hty
      have hdr : ps.drop k = ps[k] :: ps.drop (k + 1) := List.drop_eq_getElem_cons hlt
      rw [hdr, wordsN] at hwd
      rw [hdr, cellsN] at hcd
      have hcd2 := (cellsN_bd (ps.drop (k + 1)) (by rw [List.all_eq_true] at hok ⊢; exact fun x hx => hok x (List.mem_of_mem_drop hx))).1
      have hk0 : (0 : Int) ≤ (k : Int) := by omega
      have hk1 : (k : Int) < (ps.length : Int) := by omega
      obtain ⟨n, hn⟩ : ∃ n : Nat, ps[k].len = n := ⟨ps[k].len.toNat, by omega⟩
      have HN : Hid (ps[k].len = n) := hn
      rw [hn] at e1 hwd hcd t0 t1
      clear h0 h1 hdr hn hkp hbxr
      by_cases hz : n = 0
      · subst hz
        rw [if_pos (by rfl)] at hwd
        have ha : ws.length + cs.length < ar.length := by omega
        obtain ⟨b2, o2, rfl, _, hb2, c2, _⟩ := wd_at har (ws.length + cs.length) ha
        have c2' := hold hb2 c2
        have hg := HR.out.g
        have hgl : (fill ws nr).length = nr := fill_len (by omega)
        have hf1 := row_free hg ws.length
        have hrc := row_cell hg (k := ws.length) (by omega)
        have i0 : (0 : Int) ≤ ((ws.length + cs.length : Nat) : Int) := by omega
        have i1 : ((ws.length + cs.length : Nat) : Int) < (ar.length : Int) := by omega
        have i2 : (0 : Int) ≤ (ws.length : Int) := by omega
        have i3 : (ws.length : Int) < (nr : Int) := by omega
        have HW : Hid (RBeg w2 (w.heap.size + 1) (w.heap.size + 2) ps nr nc ar (k + 1) (ws ++ [ar[ws.length + cs.length]]) cs (wr.setCell ⟨w.heap.size + 1, ws.length, none⟩ (.int .u32 ((ar[ws.length + cs.length] : Nat) : Int)))) := HR.out.word hGC hlt HN.out hnr ha
        clear hRB hg c2 hold
        go_upto_region 14 with fail
        generalize World.setCell wr _ _ = W at HW ⊢
        have hkW : ∀ b, b < w2.heap.size → b ≠ w.heap.size + 1 → b ≠ w.heap.size + 2 → W.heap[b]? = w2.heap[b]? := fun b hlt h1 h2 => HW.out.kept.block b hlt (by rintro (e | e); exact h1 e; exact h2 e)
        have hbxW : W.heap[w.heap.size]? = _ := (hkW w.heap.size (by rw [HZ2.out]; omega) (by omega) (by omega)).trans HBX.out
        have e1W : W.cell? ⟨b, o + k * 2 + 1, none⟩ = some (.int .i64 ((0 : Nat) : Int)) := by
          rw [World.cell?_of_block (w := wr) ((hkW b (by rw [HZ2.out]; omega) (by omega) (by omega)).trans (HR.out.kept.block b (by rw [HZ2.out]; omega) (by rintro (e | e) <;> omega)).symm)]; exact e1
        obtain ⟨y0, y1, y2, y3, y4⟩ := co_block (x := ⟨nm, ps, nr, nc, l⟩) hbxW
        simp only at y0 y1 y2 y3 y4 e1W
        clear hkW hbxW
        go_loopw [9, 11, 13] (fun a9 n11 j wy => a9 = .int .i64 ((ws.length + cs.length + 1 : Nat) : Int) ∧ n11 = .int .i64 (cs.length : Int) ∧ j = .int .i64 0 ∧ wy = W) (fun _ _ _ _ => 0)
        case atStart => exact ⟨by go_num, rfl, rfl, rfl⟩
        case round =>
          obtain ⟨rfl, rfl, rfl, rfl⟩ := hrel
          go_wp2_with fail
          go_roundw
          case rel => exact ⟨k + 1, ws ++ [ar[ws.length + cs.length]], cs, by omega, by go_num, by simp, rfl, by simp; omega, HW.out⟩
          case measure => simp [intOf]; omega
      · rw [if_neg (by omega)] at hwd
        have hz' : ((n : Int) == 0) = false := by rw [beq_eq_false_iff_ne]; omega
        have hRI : RIn w2 (w.heap.size + 1) (w.heap.size + 2) nr nc ar ws cs 0 wr := ⟨HR.out.g, by rw [List.take_zero, List.append_nil]; exact HR.out.c, HR.out.kept⟩
        clear hRB hold
        go_upto_region 14 with fail
        go_loopw [9, 11, 13] (fun a9 n11 jv wy => ∃ j : Nat, j ≤ n ∧ jv = .int .i64 (j : Int) ∧ n11 = .int .i64 ((cs.length + j : Nat) : Int) ∧ a9 = .int .i64 ((ws.length + cs.length + j : Nat) : Int) ∧ RIn w2 (w.heap.size + 1) (w.heap.size + 2) nr nc ar ws cs j wy) (fun _ _ jv _ => n - (intOf jv).toNat)
        case atStart => exact ⟨0, Nat.zero_le _, rfl, rfl, rfl, hRI⟩
        case round =>
          obtain ⟨j, hj, rfl, rfl, rfl, hRJ⟩ := hrel
          have HJ : Hid _ := hRJ
          have hkj : ∀ b, b < w2.heap.size → b ≠ w.heap.size + 1 → b ≠ w.heap.size + 2 → wr.heap[b]? = w2.heap[b]? := fun b hlt h1 h2 => hRJ.kept.block b hlt (by rintro (e | e); exact h1 e; exact h2 e)
          have hbxj : wr.heap[w.heap.size]? = _ := (hkj w.heap.size (by rw [HZ2.out]; omega) (by omega) (by omega)).trans HBX.out
          have hold : ∀ {b o : Nat} {v : Value}, b < w.heap.size → w.cell? ⟨b, o, none⟩ = some v → wr.cell? ⟨b, o, none⟩ = some v := fun {b o v} hlt hc => by
            rw [World.cell?_of_block (w := w) ((hkj b (by rw [HZ2.out]; omega) (by omega) (by omega)).trans (HB2.out.block b hlt))]; exact hc
          obtain ⟨y0, y1, y2, y3, y4⟩ := co_block (x := ⟨nm, ps, nr, nc, l⟩) hbxj
          simp only at y0 y1 y2 y3 y4
          obtain ⟨b3, o3, ea, _, hb3, _, h13⟩ := ty_at hps k hlt
          have e1j := hold hb3 h13
          rw [HN.out] at e1j
          have ea1 : b3 = b ∧ o3 = o := by have := Option.some.inj ea; injection this with q1 q2 _; exact ⟨q1.symm, q2.symm⟩
          obtain ⟨rfl, rfl⟩ := ea1
          clear ea h13 hkj hbxj hRJ
          by_cases hjn : j < n
          · have ha : ws.length + cs.length + j < ar.length := by omega
            obtain ⟨b2, o2, rfl, _, hb2, c2, _⟩ := wd_at har (ws.length + cs.length + j) ha
            have c2' := hold hb2 c2
            have hg := HJ.out.c
            have hl0 : (cs ++ (ar.drop (ws.length + cs.length)).take j).length = cs.length + j := by rw [List.length_append, List.length_take, List.length_drop]; omega
            have hgl : (fill (cs ++ (ar.drop (ws.length + cs.length)).take j) nc).length = nc := fill_len (by omega)
            have hf1 := row_free hg (cs.length + j)
            have hrc := row_cell hg (k := cs.length + j) (by omega)
            have i0 : (0 : Int) ≤ ((ws.length + cs.length + j : Nat) : Int) := by omega
            have i1 : ((ws.length + cs.length + j : Nat) : Int) < (ar.length : Int) := by omega
            have i2 : (0 : Int) ≤ ((cs.length + j : Nat) : Int) := by omega
            have i3 : ((cs.length + j : Nat) : Int) < (nc : Int) := by omega
            have HW : Hid _ := HJ.out.next hGC ha (by omega)
            clear hg c2 hold
            go_wp2_with fail
            go_roundw
            case rel => exact ⟨j + 1, by omega, by go_num, by go_num, by go_num, HW.out⟩
            case measure => simp [intOf]; omega
          · have hjn' : j = n := by omega
            subst hjn'
            obtain ⟨hn1, hn2⟩ := RBeg.row HR.out HJ.out hlt HN.out hz (by omega)
            have HW : Hid _ := hn1
            have HL : Hid _ := hn2
            clear hn1 hn2 hold
            go_wp2_with fail
            go_roundw
            case rel => exact ⟨k + 1, ws, _, by omega, by go_num, rfl, by rw [HL.out], by rw [HL.out]; congr 2; omega, HW.out⟩
            case measure => simp [intOf]; omega
    · have hkl : k = ps.length := by omega
      have hs := hRB.split
      rw [List.drop_of_length_le (by omega), splitA, List.append_nil, List.append_nil] at hs
      rw [List.drop_of_length_le (by omega), cellsN] at hcd
      have hg := hRB.g
      have hc := hRB.c
      have hbl : Below w.heap.size w wr := Kept.to_below ((Below.kept HB2.out (fun b => b = w.heap.size + 1 ∨ b = w.heap.size + 2)).trans hRB.kept) (by rintro b (e | e) <;> omega)
      have hsz : w.heap.size + 3 ≤ wr.heap.size := by rw [← HZ2.out]; exact hRB.kept.size
      have HE : Hid ((cs.length : Int) = cellsN ps) := by show _ = _; omega
      have HF : Hid (wr.heap[w.heap.size + 1]? = some (.cells (wvs (fill (splitA ps ar).1 nr)) 26) ∧ wr.heap[w.heap.size + 2]? = some (.cells (wvs (fill (splitA ps ar).2 nc)) 26) ∧ Below w.heap.size w wr ∧ w.heap.size + 3 ≤ wr.heap.size) := by
        refine ⟨?_, ?_, hbl, hsz⟩
        · rw [hs]; exact hg
        · rw [hs]; exact hc
      clear hs hg hc hbl hsz hRB hkp hbxr hold hwd hcd
      go_wp2_with fail
      go_ret3
      refine ⟨?_, HF.out⟩
      rw [← HE.out]
      rfl
end Go.Proofs.Ytndmkfmpdnoliaa
