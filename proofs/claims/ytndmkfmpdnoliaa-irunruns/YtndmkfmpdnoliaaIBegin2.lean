/- CONTRACT of begin. Made by gen/gen_begin.py. -/
import Derived.Test.YtndmkfmpdnoliaaIBegin
namespace Go.Proofs.Ytndmkfmpdnoliaa
open Go.ChangeShapes Go.WideShapes Go.ChangeAt Go.RowKit

theorem splitA_word {t : Ty} {ps : List Ty} {ar : List Nat} (h : t.len = 0) : splitA (t :: ps) ar = (ar.headD 0 :: (splitA ps ar.tail).1, (splitA ps ar.tail).2) := by rw [splitA, if_pos h]
theorem splitA_row {t : Ty} {ps : List Ty} {ar : List Nat} (h : ¬ t.len = 0) : splitA (t :: ps) ar = ((splitA ps (ar.drop t.len.toNat)).1, ar.take t.len.toNat ++ (splitA ps (ar.drop t.len.toNat)).2) := by rw [splitA, if_neg h]
/-- How far begin has come. -/
structure BegAt (w : World) (S : Nat → Prop) (nm : List UInt8) (ps : List Ty) (nr nc : Nat) (l : List Ir) (pa : Option Addr) (pc : Nat) (la : Option Addr) (lc : Nat) (ar : List Nat) (R F G C : Nat) (k : Nat) (ws cs rest : List Nat) (ra : Option Addr) (rc : Nat) (wr : World) : Prop where
  row : kWd.row w S ra rest
  cap : rest.length ≤ rc
  len : (rest.length : Int) = wordsN (ps.drop k) + cellsN (ps.drop k)
  split : splitA ps ar = (ws ++ (splitA (ps.drop k) rest).1, cs ++ (splitA (ps.drop k) rest).2)
  words : ws.length + wordsN (ps.drop k) = wordsN ps
  cells : (cs.length : Int) + cellsN (ps.drop k) = cellsN ps
  fr : FrM wr R F G C ⟨fill ws nr, fill cs nc, 0, false, 0⟩
  below : Below w.heap.size w wr
  box : wr.heap[w.heap.size]? = some (.cells #[.string (bs nm), .slice pa ps.length pc, .int .i64 (nr : Int), .int .i64 (nc : Int), .slice la l.length lc] 39)
theorem kWd.row_bd {w : World} {S : Nat → Prop} : ∀ {l : List Nat} {a : Option Addr}, kWd.row w S a l → ∀ n ∈ l, n < 4294967296
  | [], _, _, n, hn => by cases hn
  | x :: l, a, h, n, hn => by
    obtain ⟨b, o, cs, rfl, hS, hc, hC, hr⟩ := h
    rcases List.mem_cons.1 hn with rfl | h
    · exact hC.2
    · exact kWd.row_bd hr n h
theorem kWd.row_drop {w : World} {S : Nat → Prop} : ∀ {l : List Nat} {b o : Nat} (k : Nat), kWd.row w S (some ⟨b, o, none⟩) l → kWd.row w S (some ⟨b, o + k, none⟩) (l.drop k)
  | l, b, o, 0, h => h
  | [], b, o, k + 1, h => trivial
  | x :: l, b, o, k + 1, h => by
    obtain ⟨b', o', cs, e, hS, hc, hC, hr⟩ := h
    have e' : b' = b ∧ o' = o := by simpa [eq_comm] using e
    obtain ⟨rfl, rfl⟩ := e'
    have := kWd.row_drop k hr
    rw [show o' + (k + 1) = o' + kWd.n + k by show _ = o' + 1 + k; omega]
    exact this

theorem at_three (w : World) (o1 o2 o3 : Obj) : (((w.alloc o1).alloc o2).alloc o3).drew.heap[w.heap.size]? = some o1 ∧ (((w.alloc o1).alloc o2).alloc o3).drew.heap[w.heap.size + 1]? = some o2 ∧ (((w.alloc o1).alloc o2).alloc o3).drew.heap[w.heap.size + 2]? = some o3 ∧ Below w.heap.size w (((w.alloc o1).alloc o2).alloc o3).drew := by
  refine ⟨?_, ?_, ?_, bl_then (bl_alloc (bl_alloc (bl_alloc (Below.refl _ _) _) _) _) (drew_bl _)⟩
  · show (((w.alloc o1).alloc o2).alloc o3).heap[w.heap.size]? = _
    rw [heap_alloc_old _ _ (by simp; omega), heap_alloc_old _ _ (by simp)]; exact heap_alloc_new w o1
  · show (((w.alloc o1).alloc o2).alloc o3).heap[w.heap.size + 1]? = _
    rw [heap_alloc_old _ _ (by simp)]
    have := heap_alloc_new (w.alloc o1) o2
    simpa using this
  · show (((w.alloc o1).alloc o2).alloc o3).heap[w.heap.size + 2]? = _
    have := heap_alloc_new ((w.alloc o1).alloc o2) o3
    simpa using this
theorem begin_madeA {w w1 : World} {R nr nc : Nat} {O : Obj} (hR : R < w.heap.size) (hx : w1.heap[w.heap.size]? = some O) (hb1 : Below w.heap.size w w1) (hz1 : w1.heap.size = w.heap.size + 1) :
    ∃ G C, FrM (((w1.alloc (.cells (wvs (List.replicate nr 0)) 26)).alloc (.cells (wvs (List.replicate nc 0)) 26)).alloc (.cells #[.pointer (some ⟨R, 0, none⟩), .slice (some ⟨w.heap.size + 1, 0, none⟩) nr nr, .slice (some ⟨w.heap.size + 2, 0, none⟩) nc nc, .int .i64 0, .bool false, .int .u32 0] 67)).drew R (w.heap.size + 3) G C ⟨List.replicate nr 0, List.replicate nc 0, 0, false, 0⟩ ∧ Below w.heap.size w (((w1.alloc (.cells (wvs (List.replicate nr 0)) 26)).alloc (.cells (wvs (List.replicate nc 0)) 26)).alloc (.cells #[.pointer (some ⟨R, 0, none⟩), .slice (some ⟨w.heap.size + 1, 0, none⟩) nr nr, .slice (some ⟨w.heap.size + 2, 0, none⟩) nc nc, .int .i64 0, .bool false, .int .u32 0] 67)).drew ∧ ((((w1.alloc (.cells (wvs (List.replicate nr 0)) 26)).alloc (.cells (wvs (List.replicate nc 0)) 26)).alloc (.cells #[.pointer (some ⟨R, 0, none⟩), .slice (some ⟨w.heap.size + 1, 0, none⟩) nr nr, .slice (some ⟨w.heap.size + 2, 0, none⟩) nc nc, .int .i64 0, .bool false, .int .u32 0] 67)).drew).heap[w.heap.size]? = some O ∧ w.heap.size < G ∧ w.heap.size < C := by
  have a1 := at_three w1 (.cells (wvs (List.replicate nr 0)) 26) (.cells (wvs (List.replicate nc 0)) 26) (.cells #[.pointer (some ⟨R, 0, none⟩), .slice (some ⟨w.heap.size + 1, 0, none⟩) nr nr, .slice (some ⟨w.heap.size + 2, 0, none⟩) nc nc, .int .i64 0, .bool false, .int .u32 0] 67)
  obtain ⟨b1, b2, b3, b4⟩ := a1
  rw [hz1] at b1 b2 b3
  refine ⟨w.heap.size + 1, w.heap.size + 2, made_fr b1 b2 b3 (by omega) (by omega) (by omega) (by omega) (by omega) (by omega), bl_then hb1 b4, ?_, by omega, by omega⟩
  exact (b4.block _ (lt_of_some hx)).trans hx
theorem begin_madeB {w w1 : World} {R nr nc : Nat} {O : Obj} (hR : R < w.heap.size) (hx : w1.heap[w.heap.size]? = some O) (hb1 : Below w.heap.size w w1) (hz1 : w1.heap.size = w.heap.size + 1) :
    ∃ G C, FrM (((w1.alloc (.cells (wvs (List.replicate nc 0)) 26)).alloc (.cells (wvs (List.replicate nr 0)) 26)).alloc (.cells #[.pointer (some ⟨R, 0, none⟩), .slice (some ⟨w.heap.size + 2, 0, none⟩) nr nr, .slice (some ⟨w.heap.size + 1, 0, none⟩) nc nc, .int .i64 0, .bool false, .int .u32 0] 67)).drew R (w.heap.size + 3) G C ⟨List.replicate nr 0, List.replicate nc 0, 0, false, 0⟩ ∧ Below w.heap.size w (((w1.alloc (.cells (wvs (List.replicate nc 0)) 26)).alloc (.cells (wvs (List.replicate nr 0)) 26)).alloc (.cells #[.pointer (some ⟨R, 0, none⟩), .slice (some ⟨w.heap.size + 2, 0, none⟩) nr nr, .slice (some ⟨w.heap.size + 1, 0, none⟩) nc nc, .int .i64 0, .bool false, .int .u32 0] 67)).drew ∧ ((((w1.alloc (.cells (wvs (List.replicate nc 0)) 26)).alloc (.cells (wvs (List.replicate nr 0)) 26)).alloc (.cells #[.pointer (some ⟨R, 0, none⟩), .slice (some ⟨w.heap.size + 2, 0, none⟩) nr nr, .slice (some ⟨w.heap.size + 1, 0, none⟩) nc nc, .int .i64 0, .bool false, .int .u32 0] 67)).drew).heap[w.heap.size]? = some O ∧ w.heap.size < G ∧ w.heap.size < C := by
  have a1 := at_three w1 (.cells (wvs (List.replicate nc 0)) 26) (.cells (wvs (List.replicate nr 0)) 26) (.cells #[.pointer (some ⟨R, 0, none⟩), .slice (some ⟨w.heap.size + 2, 0, none⟩) nr nr, .slice (some ⟨w.heap.size + 1, 0, none⟩) nc nc, .int .i64 0, .bool false, .int .u32 0] 67)
  obtain ⟨b1, b2, b3, b4⟩ := a1
  rw [hz1] at b1 b2 b3
  refine ⟨w.heap.size + 2, w.heap.size + 1, made_fr b2 b1 b3 (by omega) (by omega) (by omega) (by omega) (by omega) (by omega), bl_then hb1 b4, ?_, by omega, by omega⟩
  exact (b4.block _ (lt_of_some hx)).trans hx
theorem begin_word {w : World} {S : Nat → Prop} {nm : List UInt8} {ps : List Ty} {nr nc : Nat} {l : List Ir} {pa : Option Addr} {pc : Nat} {la : Option Addr} {lc : Nat} {ar : List Nat} {R F G C : Nat} {k : Nat} {ws cs rest : List Nat} {b o rc : Nat} {wr : World} {z : Obj} {ra : Option Addr} (hlt : k < ps.length)
    (h : BegAt w S nm ps nr nc l pa pc la lc ar R F G C k ws cs rest (some ⟨b, o, none⟩) rc wr) (hz : ps[k].len = 0) (hrp : 0 < rest.length) (hwl : ws.length < nr) (hXG : w.heap.size ≠ G) (hG : w.heap.size ≤ G) (hra : ra = if rc = 1 then some ⟨b, o, none⟩ else some ⟨b, o + 1, none⟩) :
    BegAt w S nm ps nr nc l pa pc la lc ar R F G C (k + 1) (ws ++ [rest[0]]) cs rest.tail ra (rc - 1) ((wr.alloc z).drew.setCell ⟨G, ws.length, none⟩ (.int .u32 (rest[0] : Int))) := by
  have hdr : ps.drop k = ps[k] :: ps.drop (k + 1) := List.drop_eq_getElem_cons hlt
  have hrest : rest = rest[0] :: rest.tail := by cases rest with
    | nil => simp at hrp
    | cons a t => rfl
  have hlen := h.len
  have hws := h.words
  have hcs := h.cells
  have hsp := h.split
  have hcap := h.cap
  rw [hdr, wordsN, cellsN, if_pos hz, hz] at hlen
  rw [hdr, wordsN, if_pos hz] at hws
  rw [hdr, cellsN, hz] at hcs
  rw [hdr, splitA_word hz] at hsp
  have hd : rest.headD 0 = rest[0] := by cases rest with
    | nil => simp at hrp
    | cons a t => rfl
  rw [hd] at hsp
  have hbd : rest[0] < 4294967296 := kWd.row_bd h.row _ (List.getElem_mem hrp)
  have hfr := h.fr
  have hfl := fill_len (l := ws) (n := nr) (by omega)
  have hg2 : ((wr.alloc z).drew.setCell ⟨G, ws.length, none⟩ (.int .u32 (rest[0] : Int))).heap[G]? = some (.cells (wvs (fill (ws ++ [rest[0]]) nr)) 26) := by
    have h1 : (wr.alloc z).drew.heap[G]? = some (.cells (wvs (fill ws nr)) 26) := (heap_alloc_old wr z (lt_of_some hfr.g)).trans hfr.g
    rw [setCell_at h1]
    have := wvs_set (fill ws nr) ws.length rest[0]
    unfold wv at this
    rw [this, fill_set hwl]
  refine ⟨?_, by simp; omega, by simp; omega, by rw [hsp]; simp, by simp; omega, by omega, ⟨?_, hg2, ?_, hfr.fg, hfr.fc, hfr.gc, hfr.rf, hfr.rg, hfr.rc, ?_, hfr.cells, hfr.res⟩, ?_, ?_⟩
  · subst hra
    by_cases h1 : rc = 1
    · have : rest.tail = [] := List.eq_nil_of_length_eq_zero (by simp; omega)
      rw [this]; trivial
    · rw [if_neg h1]
      have := kWd.row_drop 1 h.row
      rwa [List.drop_one] at this
  · rw [setCell_other hfr.fg]
    have h1 : (wr.alloc z).drew.heap[F]? = _ := (heap_alloc_old wr z (lt_of_some hfr.f)).trans hfr.f
    rw [h1, hfl, fill_len (l := ws ++ [rest[0]]) (n := nr) (by simp; omega)]
  · rw [setCell_other (Ne.symm hfr.gc)]
    exact (heap_alloc_old wr z (lt_of_some hfr.c)).trans hfr.c
  · refine fill_bd fun x hx => ?_
    rcases List.mem_append.1 hx with h1 | h1
    · exact hfr.regs x (List.mem_append_left _ h1)
    · have : x = rest[0] := by simpa using h1
      omega
  · exact bl_set (bl_then (bl_alloc h.below z) (drew_bl _)) G _ _ hG
  · rw [setCell_other hXG]
    exact (heap_alloc_old wr z (lt_of_some h.box)).trans h.box
theorem begin_src {w wr : World} {S : Nat → Prop} {b o n : Nat} {rest : List Nat} {z : Obj} (h : kWd.row w S (some ⟨b, o, none⟩) rest) (hb : Below w.heap.size w wr) : ∀ j v, ((rest.take n).map wv)[j]? = some v → (wr.alloc z).drew.cell? ((⟨b, o, none⟩ : Addr).add j) = some v := by
  intro j v hj
  have e : (⟨b, o, none⟩ : Addr).add j = ⟨b, o + j, none⟩ := by unfold Addr.add; split <;> simp_all
  rw [e]
  have hj2 : j < rest.length := by
    rcases Nat.lt_or_ge j rest.length with h1 | h1
    · exact h1
    · rw [List.getElem?_eq_none (by simp; omega)] at hj; cases hj
  obtain ⟨b', o', e', _, hlt, hc, _⟩ := wd_at h j hj2
  have e2 : b' = b ∧ o' = o := by simpa [eq_comm] using e'
  obtain ⟨rfl, rfl⟩ := e2
  have hv : v = .int .u32 (rest[j] : Int) := by
    rw [List.getElem?_map] at hj
    obtain ⟨x, hx, rfl⟩ := Option.map_eq_some_iff.1 hj
    rw [List.getElem?_take] at hx
    split at hx
    · have : x = rest[j] := by rw [List.getElem?_eq_getElem hj2] at hx; exact (Option.some.inj hx).symm
      rw [this]; rfl
    · cases hx
  rw [hv]
  exact alloc_cell z ((hb.cell (p := ⟨b', o' + j, none⟩) hlt).trans hc)
theorem begin_row {w : World} {S : Nat → Prop} {nm : List UInt8} {ps : List Ty} {nr nc : Nat} {l : List Ir} {pa : Option Addr} {pc : Nat} {la : Option Addr} {lc : Nat} {ar : List Nat} {R F G C : Nat} {k : Nat} {ws cs rest : List Nat} {b o rc n : Nat} {wr : World} {z : Obj} {ra : Option Addr} (hlt : k < ps.length)
    (h : BegAt w S nm ps nr nc l pa pc la lc ar R F G C k ws cs rest (some ⟨b, o, none⟩) rc wr) (hn : ps[k].len = n) (hz : ¬ ps[k].len = 0) (hrn : n ≤ rest.length) (hcl : cs.length + n ≤ nc) (hXC : w.heap.size ≠ C) (hC : w.heap.size ≤ C) (hra : ra = if rc = n then some ⟨b, o, none⟩ else some ⟨b, o + n, none⟩) :
    BegAt w S nm ps nr nc l pa pc la lc ar R F G C (k + 1) ws (cs ++ rest.take n) (rest.drop n) ra (rc - n) ((wr.alloc z).drew.setRow C (splice ((fill cs nc).map wv) cs.length ((rest.take n).map wv)).toArray) := by
  have hdr : ps.drop k = ps[k] :: ps.drop (k + 1) := List.drop_eq_getElem_cons hlt
  have hlen := h.len
  have hws := h.words
  have hcs := h.cells
  have hsp := h.split
  have hcap := h.cap
  rw [hdr, wordsN, cellsN, if_neg hz, hn] at hlen
  rw [hdr, wordsN, if_neg hz] at hws
  rw [hdr, cellsN, hn] at hcs
  rw [hdr, splitA_row hz, hn] at hsp
  simp only [Int.toNat_natCast] at hsp
  have hfr := h.fr
  have hfl := fill_len (l := cs) (n := nc) (by omega)
  have htl : (rest.take n).length = n := by rw [List.length_take]; omega
  have hc2 : ((wr.alloc z).drew.setRow C (splice ((fill cs nc).map wv) cs.length ((rest.take n).map wv)).toArray).heap[C]? = some (.cells (wvs (fill (cs ++ rest.take n) nc)) 26) := by
    have h1 : (wr.alloc z).drew.heap[C]? = some (.cells (wvs (fill cs nc)) 26) := (heap_alloc_old wr z (lt_of_some hfr.c)).trans hfr.c
    rw [setRow_heap _ C _ _ _ _ h1, fill_splice (by omega)]
  refine ⟨?_, by simp; omega, by simp; omega, by rw [hsp]; simp, by omega, by simp; omega, ⟨?_, ?_, hc2, hfr.fg, hfr.fc, hfr.gc, hfr.rf, hfr.rg, hfr.rc, hfr.regs, ?_, hfr.res⟩, ?_, ?_⟩
  · subst hra
    by_cases h1 : rc = n
    · have : rest.drop n = [] := List.eq_nil_of_length_eq_zero (by simp; omega)
      rw [this]; trivial
    · rw [if_neg h1]
      exact kWd.row_drop n h.row
  · rw [setRow_other _ _ _ _ hfr.fc]
    have h1 : (wr.alloc z).drew.heap[F]? = _ := (heap_alloc_old wr z (lt_of_some hfr.f)).trans hfr.f
    rw [h1, hfl, fill_len (l := cs ++ rest.take n) (n := nc) (by simp; omega)]
  · rw [setRow_other _ _ _ _ hfr.gc]
    exact (heap_alloc_old wr z (lt_of_some hfr.g)).trans hfr.g
  · refine fill_bd fun x hx => ?_
    rcases List.mem_append.1 hx with h1 | h1
    · exact hfr.cells x (List.mem_append_left _ h1)
    · exact kWd.row_bd h.row _ (List.mem_of_mem_take h1)
  · exact below_setRow (bl_then (bl_alloc h.below z) (drew_bl _)) hC _
  · rw [setRow_other _ _ _ _ hXC]
    exact (heap_alloc_old wr z (lt_of_some h.box)).trans h.box
theorem begin_fin {w : World} {S : Nat → Prop} {nm : List UInt8} {ps : List Ty} {nr nc : Nat} {l : List Ir} {pa : Option Addr} {pc : Nat} {la : Option Addr} {lc : Nat} {ar : List Nat} {R F G C : Nat} {k : Nat} {ws cs rest : List Nat} {ra : Option Addr} {rc : Nat} {wr : World} (hk : k = ps.length)
    (h : BegAt w S nm ps nr nc l pa pc la lc ar R F G C k ws cs rest ra rc wr) : FrM wr R F G C ⟨fill (splitA ps ar).1 nr, fill (splitA ps ar).2 nc, 0, false, 0⟩ := by
  have hs := h.split
  rw [List.drop_of_length_le (by omega), splitA, List.append_nil, List.append_nil] at hs
  rw [hs]; exact h.fr
set_option maxRecDepth 100000 in
set_option maxHeartbeats 8000000 in
theorem begin_any {S : Nat → Prop} (R : Nat) (nm : List UInt8) (ps : List Ty) (nr nc : Nat) (l : List Ir) (pa : Option Addr) (pc : Nat) (la : Option Addr) (lc : Nat) (ar : List Nat) (aa : Option Addr) (ac : Nat) (w : World) (hps : kTy.row w S pa ps) (har : kWd.row w S aa ar) (hac : ar.length ≤ ac)
    (hp6 : ps.length ≤ 6) (hok : ps.all tyOk = true) (hnr : wordsN ps ≤ nr) (hnr2 : nr ≤ 10000) (hnc : cellsN ps ≤ nc) (hnc2 : nc ≤ 4096) (hlen : (ar.length : Int) = wordsN ps + cellsN ps) (hR : R < w.heap.size) :
    Calls Try.prog 26 #[.pointer (some ⟨R, 0, none⟩), .agg #[.string (bs nm), .slice pa ps.length pc, .int .i64 (nr : Int), .int .i64 (nc : Int), .slice la l.length lc], .slice aa ar.length ac] w fun e w' => (∃ F G C, e = .returned (.pointer (some ⟨F, 0, none⟩)) ∧ FrM w' R F G C ⟨fill (splitA ps ar).1 nr, fill (splitA ps ar).2 nc, 0, false, 0⟩ ∧ w.heap.size ≤ F ∧ w.heap.size < G ∧ w.heap.size < C) ∧ Below w.heap.size w w' := by
  have hx := heap_alloc_new w (.cells #[.string (bs nm), .slice pa ps.length pc, .int .i64 (nr : Int), .int .i64 (nc : Int), .slice la l.length lc] 39)
  have hb1 := bl_alloc (Below.refl w.heap.size w) (.cells #[.string (bs nm), .slice pa ps.length pc, .int .i64 (nr : Int), .int .i64 (nc : Int), .slice la l.length lc] 39)
  have hz1 : (w.alloc (.cells #[.string (bs nm), .slice pa ps.length pc, .int .i64 (nr : Int), .int .i64 (nc : Int), .slice la l.length lc] 39)).heap.size = w.heap.size + 1 := by simp
  have hmk := fun n (hn : n ≤ 10000) => run_make_row' (P := Try.prog) 23 26 (.int .u32 0) 4 Try.underlying23 wd_info rfl .i64 .i64 n (by omega) (by omega)
  have hm1 := hmk nr (by omega)
  have hm2 := hmk nc (by omega)
  simp only [made_eq] at hm1 hm2
  clear hmk
  go_enter Try.func26, Try.ntmps26
  go_wp2_with fail
  generalize w.alloc (.cells #[.string (bs nm), .slice pa ps.length pc, .int .i64 (nr : Int), .int .i64 (nc : Int), .slice la l.length lc] 39) = w1 at hx hb1 hz1 ⊢
  have x2 : w1.cell? ⟨w.heap.size, 2, none⟩ = some (.int .i64 (nr : Int)) := by simp [World.cell?, hx]
  have x3 : w1.cell? ⟨w.heap.size, 3, none⟩ = some (.int .i64 (nc : Int)) := by simp [World.cell?, hx]
  have al : ∀ (W : World) o, (W.cell? ⟨w.heap.size, 2, none⟩ = some (.int .i64 (nr : Int)) ∧ W.cell? ⟨w.heap.size, 3, none⟩ = some (.int .i64 (nc : Int))) → ((W.alloc o).cell? ⟨w.heap.size, 2, none⟩ = some (.int .i64 (nr : Int)) ∧ (W.alloc o).cell? ⟨w.heap.size, 3, none⟩ = some (.int .i64 (nc : Int))) := fun W o h => ⟨alloc_cell o h.1, alloc_cell o h.2⟩
  refine wp_region_held_drew (S := (fun w' => w'.cell? ⟨w.heap.size, 2, none⟩ = some (.int .i64 (nr : Int)) ∧ w'.cell? ⟨w.heap.size, 3, none⟩ = some (.int .i64 (nc : Int)))) (by kernel_rfl) ⟨x2, x3⟩ (fun hHeld => ?_)
  refine wpAnyH_take (i := 0) (v := ?_) rfl (by kernel_rfl) (by kernel_rfl) (by kernel_rfl) (fun _ _ _ h => h) (Or.inl ⟨by rfl, by intro w hSw; (try dsimp only at hSw); go_simp; all_goals with_reducible rfl⟩) hHeld ?_
  try simp only [Act.put]
  refine wpAnyH_take (i := 1) (v := ?_) rfl (by kernel_rfl) (by kernel_rfl) (by kernel_rfl) (fun _ _ _ h => h) (Or.inl ⟨by rfl, by intro w hSw; (try dsimp only at hSw); go_simp; all_goals with_reducible rfl⟩) hHeld ?_
  try simp only [Act.put]
  refine wpAnyH_take (i := 2) (v := ?_) rfl (by kernel_rfl) (by kernel_rfl) (by kernel_rfl) (fun _ _ _ h => h) (Or.inl ⟨by rfl, by intro w hSw; (try dsimp only at hSw); go_simp; all_goals with_reducible rfl⟩) hHeld ?_
  try simp only [Act.put]
  refine wpAnyH_take (i := 4) (v := ?_) rfl (by kernel_rfl) (by kernel_rfl) (by kernel_rfl) (fun _ _ _ h => h) (Or.inl ⟨by rfl, by intro w hSw; (try dsimp only at hSw); go_simp; all_goals with_reducible rfl⟩) hHeld ?_
  try simp only [Act.put]
  refine wpAnyH_take (i := 5) (v := ?_) rfl (by kernel_rfl) (by kernel_rfl) (by kernel_rfl) (fun _ _ _ h => h) (Or.inl ⟨by rfl, by intro w hSw; (try dsimp only at hSw); go_simp; all_goals with_reducible rfl⟩) hHeld ?_
  try simp only [Act.put]
  refine wpAnyH_ready (rs := [3, 6]) (by kernel_rfl) (by simp) ?_
  refine AllReadyH.cons rfl (fun K hK => ?_) (AllReadyH.cons rfl (fun K hK => ?_) (AllReadyH.nil))
  · go_simp
    refine hK.out _ _ (al _ _ hHeld) (fun hHeld => ?_)
    clear hK K
    try simp only [Act.put]
    refine wpAnyH_ready (rs := [6]) (by kernel_rfl) (by simp) ?_
    refine AllReadyH.cons rfl (fun K hK => ?_) (AllReadyH.nil)
    go_simp
    refine hK.out _ _ (al _ _ hHeld) (fun hHeld => ?_)
    clear hK K
    try simp only [Act.put]
    refine wpAnyH_take (i := 7) (v := ?_) rfl (by kernel_rfl) (by kernel_rfl) (by kernel_rfl) (fun _ _ _ h => h) (Or.inl ⟨by rfl, by intro w hSw; (try dsimp only at hSw); go_simp; all_goals with_reducible rfl⟩) hHeld ?_
    try simp only [Act.put]
    refine wpAnyH_ready (rs := [8]) (by kernel_rfl) (by simp) ?_
    refine AllReadyH.cons rfl (fun K hK => ?_) (AllReadyH.nil)
    go_simp
    refine hK.out _ _ (al _ _ hHeld) (fun hHeld => ?_)
    clear hK K
    try simp only [Act.put]
    refine wpAnyH_take (i := 9) (v := ?_) rfl (by kernel_rfl) (by kernel_rfl) (by kernel_rfl) (fun _ _ _ h => h) (Or.inl ⟨by rfl, by intro w hSw; (try dsimp only at hSw); go_simp; all_goals with_reducible rfl⟩) hHeld ?_
    try simp only [Act.put]
    refine wpAnyH_done (by kernel_rfl) ?_ _
    clear hHeld al x2 x3 hm1 hm2
    obtain ⟨G, C, hFr, hB2, hX2, hGX, hCX⟩ := (begin_madeA hR hx hb1 hz1 : ∃ G C, FrM (((w1.alloc (.cells (wvs (List.replicate nr 0)) 26)).alloc (.cells (wvs (List.replicate nc 0)) 26)).alloc (.cells #[.pointer (some ⟨R, 0, none⟩), .slice (some ⟨w.heap.size + 1, 0, none⟩) nr nr, .slice (some ⟨w.heap.size + 2, 0, none⟩) nc nc, .int .i64 0, .bool false, .int .u32 0] 67)).drew R (w.heap.size + 3) G C ⟨List.replicate nr 0, List.replicate nc 0, 0, false, 0⟩ ∧ Below w.heap.size w (((w1.alloc (.cells (wvs (List.replicate nr 0)) 26)).alloc (.cells (wvs (List.replicate nc 0)) 26)).alloc (.cells #[.pointer (some ⟨R, 0, none⟩), .slice (some ⟨w.heap.size + 1, 0, none⟩) nr nr, .slice (some ⟨w.heap.size + 2, 0, none⟩) nc nc, .int .i64 0, .bool false, .int .u32 0] 67)).drew ∧ ((((w1.alloc (.cells (wvs (List.replicate nr 0)) 26)).alloc (.cells (wvs (List.replicate nc 0)) 26)).alloc (.cells #[.pointer (some ⟨R, 0, none⟩), .slice (some ⟨w.heap.size + 1, 0, none⟩) nr nr, .slice (some ⟨w.heap.size + 2, 0, none⟩) nc nc, .int .i64 0, .bool false, .int .u32 0] 67)).drew).heap[w.heap.size]? = some (.cells #[.string (bs nm), .slice pa ps.length pc, .int .i64 (nr : Int), .int .i64 (nc : Int), .slice la l.length lc] 39) ∧ w.heap.size < G ∧ w.heap.size < C)
    generalize (((w1.alloc (.cells (wvs (List.replicate nr 0)) 26)).alloc (.cells (wvs (List.replicate nc 0)) 26)).alloc (.cells #[.pointer (some ⟨R, 0, none⟩), .slice (some ⟨w.heap.size + 1, 0, none⟩) nr nr, .slice (some ⟨w.heap.size + 2, 0, none⟩) nc nc, .int .i64 0, .bool false, .int .u32 0] 67)).drew = w2 at hFr hB2 hX2 ⊢
    clear hx hb1 hz1
    obtain ⟨y0, y1, y2, y3, y4⟩ := co_block (x := ⟨nm, ps, nr, nc, l⟩) hX2
    simp only at y0 y1 y2 y3 y4
    go_wp2_with fail
    have hS0 : BegAt w S nm ps nr nc l pa pc la lc ar R (w.heap.size + 3) G C 0 [] [] ar aa ac w2 := ⟨har, hac, hlen, by simp, by simp, by simp, by rw [fill_nil, fill_nil]; exact hFr, hB2, hX2⟩
    clear hFr hX2 y0 y1 y2 y3 y4
    go_loopw [2, 8, 9, 24] (fun a2 n8 n9 i wr => ∃ k ws cs rest ra rc, k ≤ ps.length ∧ i = .int .i64 (k : Nat) ∧ n8 = .int .i64 ((List.length (α := Nat) ws : Nat) : Int) ∧ n9 = .int .i64 ((List.length (α := Nat) cs : Nat) : Int) ∧ a2 = .slice ra (List.length (α := Nat) rest) rc ∧ BegAt w S nm ps nr nc l pa pc la lc ar R (w.heap.size + 3) G C k ws cs rest ra rc wr) (fun _ _ _ i _ => ps.length - (intOf i).toNat)
    case atStart => exact ⟨0, [], [], ar, aa, ac, Nat.zero_le _, rfl, rfl, rfl, rfl, hS0⟩
    case round =>
      obtain ⟨k, ws, cs, rest, ra, rc, hk, rfl, rfl, rfl, rfl, hBA⟩ := hrel
      have HA : Hid _ := hBA
      have hbl := hBA.below
      have hlenr := hBA.len
      have hwd := hBA.words
      have hcd := hBA.cells
      obtain ⟨f0, f1, f2, f3, f4, f5⟩ := hBA.fr.cells6
      obtain ⟨y0, y1, y2, y3, y4⟩ := co_block (x := ⟨nm, ps, nr, nc, l⟩) hBA.box
      simp only at f1 f2 f3 f4 f5 y0 y1 y2 y3 y4
      clear hBA hS0 hB2
      by_cases hlt : k < ps.length
      · obtain ⟨b, o, rfl, hSb, hb, h0, h1⟩ := ty_at hps k hlt
        have e0 := (hbl.cell (p := ⟨b, o + k * 2, none⟩) hb).trans h0
        have e1 := (hbl.cell (p := ⟨b, o + k * 2 + 1, none⟩) hb).trans h1
        have hty : tyOk ps[k] = true := (List.all_eq_true.1 hok) _ (List.getElem_mem hlt)
        simp only [tyOk, Bool.and_eq_true, decide_eq_true_eq] at hty
        obtain ⟨t0, t1⟩ := hty
        have hdr : ps.drop k = ps[k] :: ps.drop (k + 1) := List.drop_eq_getElem_cons hlt
        have hwn : wordsN (ps.drop k) = (if ps[k].len = 0 then 1 else 0) + wordsN (ps.drop (k + 1)) := by rw [hdr, wordsN]
        have hcn : cellsN (ps.drop k) = ps[k].len + cellsN (ps.drop (k + 1)) := by rw [hdr, cellsN]
        have hcp := (cellsN_bd (ps.drop (k + 1)) (by rw [List.all_eq_true] at hok ⊢; exact fun z hz => hok z (List.mem_of_mem_drop hz))).1
        have HD : Hid (ps.drop k = ps[k] :: ps.drop (k + 1)) := hdr
        clear h0 h1 hdr hbl
        by_cases hz : ps[k].len = 0
        · rw [hz] at e1 hcn
          rw [if_pos hz] at hwn
          have hrp : 0 < rest.length := by omega
          obtain ⟨b2, o2, rfl, hS2, hb2, hc2, hlt2⟩ := wd_at HA.out.row 0 hrp
          have g2 := (HA.out.below.cell (p := ⟨b2, o2 + 0, none⟩) hb2).trans hc2
          rw [Nat.add_zero] at g2
          have hne : ¬ rest = [] := fun e => by rw [e] at hrp; simp at hrp
          have hwl : ws.length < nr := by omega
          clear hlenr hwd hcd hwn hcn hcp
          have hfl := fill_len (l := ws) (n := nr) (by omega)
          rw [hfl] at f1
          have hG := HA.out.fr.g
          have gd := row_cell hG (k := ws.length) (by rw [hfl]; exact hwl)
          have fz := row_free hG ws.length
          have i1 : (ws.length : Int) < (nr : Int) := by omega
          have i2 : (0 : Int) < (rest.length : Int) := by omega
          have nfg := HA.out.fr.fg
          have n2g : b2 ≠ G := by omega
          have hal1 : ∀ (o' : Obj), (wr.alloc o').drew.cell? ⟨w.heap.size + 3, 1, none⟩ = some (.slice (some ⟨G, 0, none⟩) nr nr) ∧ (wr.alloc o').drew.cell? ⟨b2, o2, none⟩ = some (.int .u32 (rest[0] : Int)) := fun o' => ⟨alloc_cell o' f1, alloc_cell o' g2⟩
          have gda : ∀ (o' : Obj), (wr.alloc o').cell? ⟨G, ws.length, none⟩ = some (.int .u32 ((fill ws nr)[ws.length]'(by rw [hfl]; exact hwl) : Int)) ∧ (wr.alloc o').frozen? ⟨G, ws.length, none⟩ = false := fun o' => ⟨alloc_cell o' gd, row_free (by rw [heap_alloc_old _ _ (lt_of_some hG)]; exact hG) _⟩
          have gdb := fun o' => (gda o').1
          have gdc := fun o' => (gda o').2
          clear gda
          go_wp2_with fail
          go_region_held3 (fun w' => w'.cell? ⟨w.heap.size + 3, 1, none⟩ = some (.slice (some ⟨G, 0, none⟩) nr nr) ∧ w'.cell? ⟨b2, o2, none⟩ = some (.int .u32 (rest[0] : Int)))
            (first | exact hal1 _ | exact ⟨(World.cell?_of_block (setCell_other nfg)).trans (hal1 _).1, (World.cell?_of_block (setCell_other n2g)).trans (hal1 _).2⟩)
            (fail)
          clear hal1 gdb gdc
          go_wp2_with fail
          go_roundw
          case rel => exact ⟨k + 1, ws ++ [rest[0]], cs, rest.tail, _, rc - 1, by omega, by go_num, by simp, rfl, by rw [List.length_tail], begin_word hlt HA.out hz hrp hwl (by omega) (by omega) rfl⟩
          case measure => simp [intOf]; omega
        · obtain ⟨n, hn⟩ : ∃ n : Nat, ps[k].len = n := ⟨ps[k].len.toNat, by omega⟩
          rw [hn] at e1 hcn t0 t1
          rw [if_neg hz] at hwn
          have hn0 : 0 < n := by omega
          have hrn : n ≤ rest.length := by omega
          have hrp : 0 < rest.length := by omega
          have hcl : cs.length + n ≤ nc := by omega
          obtain ⟨b2, o2, rfl, hS2, hb2, hc2, hlt2⟩ := wd_at HA.out.row 0 hrp
          have hrc := HA.out.cap
          clear hlenr hwd hcd hwn hcn hcp t0
          have hfl := fill_len (l := cs) (n := nc) (by omega)
          rw [hfl] at f2
          have i1 : (cs.length : Int) ≤ (nc : Int) := by omega
          have i2 : (n : Int) ≤ (rc : Int) := by omega
          have i3 : (n : Int) ≤ (rest.length : Int) := by omega
          have i4 : ¬ nc = cs.length := by omega
          have i5 : ¬ rc = 0 := by omega
          have i6 : ¬ nc - cs.length = 0 := by omega
          have hz' : ((n : Int) == 0) = false := by rw [beq_eq_false_iff_ne]; omega
          have hp1 : ∀ t : TypeId, (wr.alloc (.cells #[.bool ps[k].sec, .int .i64 (n : Int)] t)).cell? ⟨wr.heap.size, 1, none⟩ = some (.int .i64 (n : Int)) := fun t => by have := heap_alloc_new wr (.cells #[.bool ps[k].sec, .int .i64 (n : Int)] t); simp only [World.cell?, this]; rfl
          have f2a : ∀ (o' : Obj), (wr.alloc o').cell? ⟨w.heap.size + 3, 2, none⟩ = some (.slice (some ⟨C, 0, none⟩) nc nc) := fun o' => alloc_cell o' f2
          go_wp2_with fail
          have hsC : (wr.alloc (.cells #[.bool ps[k].sec, .int .i64 (n : Int)] 77)).drew.heap[C]? = some (.cells (wvs (fill cs nc)) 26) := (heap_alloc_old wr _ (lt_of_some HA.out.fr.c)).trans HA.out.fr.c
          have hlt3 : (rest.take n).length = n := by rw [List.length_take, Nat.min_eq_left hrn]
          have hmn : (rest.take n).length = Nat.min n (nc - cs.length) := by rw [hlt3]; exact (Nat.min_eq_left (by omega)).symm
          have hsr := begin_src (n := n) (z := .cells #[.bool ps[k].sec, .int .i64 (n : Int)] 77) HA.out.row HA.out.below
          have hft : cs.length + (rest.take n).length ≤ (fill cs nc).length := by rw [hlt3, hfl]; omega
          have nwc : wr.heap.size ≠ C := by have := lt_of_some HA.out.fr.c; omega
          have hwr : IntKind.i64.wrap ((cs.length : Int) + (n : Int)) = (cs.length : Int) + (n : Int) := Go.IntWalk.i64_in _ (by omega)
          have HC : Hid _ := hsC
          have HS3 : Hid _ := hsr
          have HM3 : Hid _ := hmn
          have HT3 : Hid _ := hft
          have hkeep : ∀ cs' : Array Value, ((wr.alloc (.cells #[.bool ps[k].sec, .int .i64 (n : Int)] 77)).drew.setRow C cs').cell? ⟨w.heap.size + 3, 2, none⟩ = some (.slice (some ⟨C, 0, none⟩) nc nc) ∧ ((wr.alloc (.cells #[.bool ps[k].sec, .int .i64 (n : Int)] 77)).drew.setRow C cs').cell? ⟨wr.heap.size, 1, none⟩ = some (.int .i64 (n : Int)) := fun cs' => ⟨(World.cell?_of_block (setRow_other _ _ _ _ HA.out.fr.fc)).trans (f2a _), (World.cell?_of_block (setRow_other _ _ _ _ nwc)).trans (hp1 _)⟩
          have HK3 : Hid _ := hkeep
          clear hsC hsr hmn hft hkeep
          go_region_held3 (fun w' => w'.cell? ⟨w.heap.size + 3, 2, none⟩ = some (.slice (some ⟨C, 0, none⟩) nc nc) ∧ w'.cell? ⟨wr.heap.size, 1, none⟩ = some (.int .i64 (n : Int)))
            (first | exact HK3.out _ | exact ⟨f2a _, hp1 _⟩)
            ((refine step_copy_words rfl _ _ rfl C cs.length (nc - cs.length) (nc - cs.length) n rc ⟨b2, o2, none⟩ rfl rfl (fill cs nc) (rest.take n) HC.out HM3.out HS3.out HT3.out ?_; rw [hlt3]))
          obtain ⟨q1, q2⟩ := (HK3.out (splice ((fill cs nc).map wv) cs.length ((rest.take n).map wv)).toArray)
          generalize hw4 : (splice ((fill cs nc).map wv) cs.length ((rest.take n).map wv)).toArray = RW at q1 q2 ⊢
          have HW4 : Hid _ := hw4
          clear hw4
          clear f2a hp1
          go_wp2_with fail
          go_roundw
          case rel => exact ⟨k + 1, ws, cs ++ rest.take n, rest.drop n, _, rc - n, by omega, by go_num, rfl, by simp; omega, by rw [List.length_drop], by rw [← HW4.out]; exact begin_row hlt HA.out hn hz hrn hcl (by omega) (by omega) rfl⟩
          case measure => simp [intOf]; omega
      · have hke : k = ps.length := by omega
        have hfin := begin_fin hke HA.out
        have hbl2 := HA.out.below
        clear HA hke
        go_wp2_with fail
        go_ret
        exact ⟨⟨w.heap.size + 3, G, C, rfl, hfin, by omega, by omega, by omega⟩, hbl2⟩
  · go_simp
    refine hK.out _ _ (al _ _ hHeld) (fun hHeld => ?_)
    clear hK K
    try simp only [Act.put]
    refine wpAnyH_ready (rs := [3]) (by kernel_rfl) (by simp) ?_
    refine AllReadyH.cons rfl (fun K hK => ?_) (AllReadyH.nil)
    go_simp
    refine hK.out _ _ (al _ _ hHeld) (fun hHeld => ?_)
    clear hK K
    try simp only [Act.put]
    refine wpAnyH_take (i := 7) (v := ?_) rfl (by kernel_rfl) (by kernel_rfl) (by kernel_rfl) (fun _ _ _ h => h) (Or.inl ⟨by rfl, by intro w hSw; (try dsimp only at hSw); go_simp; all_goals with_reducible rfl⟩) hHeld ?_
    try simp only [Act.put]
    refine wpAnyH_ready (rs := [8]) (by kernel_rfl) (by simp) ?_
    refine AllReadyH.cons rfl (fun K hK => ?_) (AllReadyH.nil)
    go_simp
    refine hK.out _ _ (al _ _ hHeld) (fun hHeld => ?_)
    clear hK K
    try simp only [Act.put]
    refine wpAnyH_take (i := 9) (v := ?_) rfl (by kernel_rfl) (by kernel_rfl) (by kernel_rfl) (fun _ _ _ h => h) (Or.inl ⟨by rfl, by intro w hSw; (try dsimp only at hSw); go_simp; all_goals with_reducible rfl⟩) hHeld ?_
    try simp only [Act.put]
    refine wpAnyH_done (by kernel_rfl) ?_ _
    clear hHeld al x2 x3 hm1 hm2
    obtain ⟨G, C, hFr, hB2, hX2, hGX, hCX⟩ := (begin_madeB hR hx hb1 hz1 : ∃ G C, FrM (((w1.alloc (.cells (wvs (List.replicate nc 0)) 26)).alloc (.cells (wvs (List.replicate nr 0)) 26)).alloc (.cells #[.pointer (some ⟨R, 0, none⟩), .slice (some ⟨w.heap.size + 2, 0, none⟩) nr nr, .slice (some ⟨w.heap.size + 1, 0, none⟩) nc nc, .int .i64 0, .bool false, .int .u32 0] 67)).drew R (w.heap.size + 3) G C ⟨List.replicate nr 0, List.replicate nc 0, 0, false, 0⟩ ∧ Below w.heap.size w (((w1.alloc (.cells (wvs (List.replicate nc 0)) 26)).alloc (.cells (wvs (List.replicate nr 0)) 26)).alloc (.cells #[.pointer (some ⟨R, 0, none⟩), .slice (some ⟨w.heap.size + 2, 0, none⟩) nr nr, .slice (some ⟨w.heap.size + 1, 0, none⟩) nc nc, .int .i64 0, .bool false, .int .u32 0] 67)).drew ∧ ((((w1.alloc (.cells (wvs (List.replicate nc 0)) 26)).alloc (.cells (wvs (List.replicate nr 0)) 26)).alloc (.cells #[.pointer (some ⟨R, 0, none⟩), .slice (some ⟨w.heap.size + 2, 0, none⟩) nr nr, .slice (some ⟨w.heap.size + 1, 0, none⟩) nc nc, .int .i64 0, .bool false, .int .u32 0] 67)).drew).heap[w.heap.size]? = some (.cells #[.string (bs nm), .slice pa ps.length pc, .int .i64 (nr : Int), .int .i64 (nc : Int), .slice la l.length lc] 39) ∧ w.heap.size < G ∧ w.heap.size < C)
    generalize (((w1.alloc (.cells (wvs (List.replicate nc 0)) 26)).alloc (.cells (wvs (List.replicate nr 0)) 26)).alloc (.cells #[.pointer (some ⟨R, 0, none⟩), .slice (some ⟨w.heap.size + 2, 0, none⟩) nr nr, .slice (some ⟨w.heap.size + 1, 0, none⟩) nc nc, .int .i64 0, .bool false, .int .u32 0] 67)).drew = w2 at hFr hB2 hX2 ⊢
    clear hx hb1 hz1
    obtain ⟨y0, y1, y2, y3, y4⟩ := co_block (x := ⟨nm, ps, nr, nc, l⟩) hX2
    simp only at y0 y1 y2 y3 y4
    go_wp2_with fail
    have hS0 : BegAt w S nm ps nr nc l pa pc la lc ar R (w.heap.size + 3) G C 0 [] [] ar aa ac w2 := ⟨har, hac, hlen, by simp, by simp, by simp, by rw [fill_nil, fill_nil]; exact hFr, hB2, hX2⟩
    clear hFr hX2 y0 y1 y2 y3 y4
    go_loopw [2, 8, 9, 24] (fun a2 n8 n9 i wr => ∃ k ws cs rest ra rc, k ≤ ps.length ∧ i = .int .i64 (k : Nat) ∧ n8 = .int .i64 ((List.length (α := Nat) ws : Nat) : Int) ∧ n9 = .int .i64 ((List.length (α := Nat) cs : Nat) : Int) ∧ a2 = .slice ra (List.length (α := Nat) rest) rc ∧ BegAt w S nm ps nr nc l pa pc la lc ar R (w.heap.size + 3) G C k ws cs rest ra rc wr) (fun _ _ _ i _ => ps.length - (intOf i).toNat)
    case atStart => exact ⟨0, [], [], ar, aa, ac, Nat.zero_le _, rfl, rfl, rfl, rfl, hS0⟩
    case round =>
      obtain ⟨k, ws, cs, rest, ra, rc, hk, rfl, rfl, rfl, rfl, hBA⟩ := hrel
      have HA : Hid _ := hBA
      have hbl := hBA.below
      have hlenr := hBA.len
      have hwd := hBA.words
      have hcd := hBA.cells
      obtain ⟨f0, f1, f2, f3, f4, f5⟩ := hBA.fr.cells6
      obtain ⟨y0, y1, y2, y3, y4⟩ := co_block (x := ⟨nm, ps, nr, nc, l⟩) hBA.box
      simp only at f1 f2 f3 f4 f5 y0 y1 y2 y3 y4
      clear hBA hS0 hB2
      by_cases hlt : k < ps.length
      · obtain ⟨b, o, rfl, hSb, hb, h0, h1⟩ := ty_at hps k hlt
        have e0 := (hbl.cell (p := ⟨b, o + k * 2, none⟩) hb).trans h0
        have e1 := (hbl.cell (p := ⟨b, o + k * 2 + 1, none⟩) hb).trans h1
        have hty : tyOk ps[k] = true := (List.all_eq_true.1 hok) _ (List.getElem_mem hlt)
        simp only [tyOk, Bool.and_eq_true, decide_eq_true_eq] at hty
        obtain ⟨t0, t1⟩ := hty
        have hdr : ps.drop k = ps[k] :: ps.drop (k + 1) := List.drop_eq_getElem_cons hlt
        have hwn : wordsN (ps.drop k) = (if ps[k].len = 0 then 1 else 0) + wordsN (ps.drop (k + 1)) := by rw [hdr, wordsN]
        have hcn : cellsN (ps.drop k) = ps[k].len + cellsN (ps.drop (k + 1)) := by rw [hdr, cellsN]
        have hcp := (cellsN_bd (ps.drop (k + 1)) (by rw [List.all_eq_true] at hok ⊢; exact fun z hz => hok z (List.mem_of_mem_drop hz))).1
        have HD : Hid (ps.drop k = ps[k] :: ps.drop (k + 1)) := hdr
        clear h0 h1 hdr hbl
        by_cases hz : ps[k].len = 0
        · rw [hz] at e1 hcn
          rw [if_pos hz] at hwn
          have hrp : 0 < rest.length := by omega
          obtain ⟨b2, o2, rfl, hS2, hb2, hc2, hlt2⟩ := wd_at HA.out.row 0 hrp
          have g2 := (HA.out.below.cell (p := ⟨b2, o2 + 0, none⟩) hb2).trans hc2
          rw [Nat.add_zero] at g2
          have hne : ¬ rest = [] := fun e => by rw [e] at hrp; simp at hrp
          have hwl : ws.length < nr := by omega
          clear hlenr hwd hcd hwn hcn hcp
          have hfl := fill_len (l := ws) (n := nr) (by omega)
          rw [hfl] at f1
          have hG := HA.out.fr.g
          have gd := row_cell hG (k := ws.length) (by rw [hfl]; exact hwl)
          have fz := row_free hG ws.length
          have i1 : (ws.length : Int) < (nr : Int) := by omega
          have i2 : (0 : Int) < (rest.length : Int) := by omega
          have nfg := HA.out.fr.fg
          have n2g : b2 ≠ G := by omega
          have hal1 : ∀ (o' : Obj), (wr.alloc o').drew.cell? ⟨w.heap.size + 3, 1, none⟩ = some (.slice (some ⟨G, 0, none⟩) nr nr) ∧ (wr.alloc o').drew.cell? ⟨b2, o2, none⟩ = some (.int .u32 (rest[0] : Int)) := fun o' => ⟨alloc_cell o' f1, alloc_cell o' g2⟩
          have gda : ∀ (o' : Obj), (wr.alloc o').cell? ⟨G, ws.length, none⟩ = some (.int .u32 ((fill ws nr)[ws.length]'(by rw [hfl]; exact hwl) : Int)) ∧ (wr.alloc o').frozen? ⟨G, ws.length, none⟩ = false := fun o' => ⟨alloc_cell o' gd, row_free (by rw [heap_alloc_old _ _ (lt_of_some hG)]; exact hG) _⟩
          have gdb := fun o' => (gda o').1
          have gdc := fun o' => (gda o').2
          clear gda
          go_wp2_with fail
          go_region_held3 (fun w' => w'.cell? ⟨w.heap.size + 3, 1, none⟩ = some (.slice (some ⟨G, 0, none⟩) nr nr) ∧ w'.cell? ⟨b2, o2, none⟩ = some (.int .u32 (rest[0] : Int)))
            (first | exact hal1 _ | exact ⟨(World.cell?_of_block (setCell_other nfg)).trans (hal1 _).1, (World.cell?_of_block (setCell_other n2g)).trans (hal1 _).2⟩)
            (fail)
          clear hal1 gdb gdc
          go_wp2_with fail
          go_roundw
          case rel => exact ⟨k + 1, ws ++ [rest[0]], cs, rest.tail, _, rc - 1, by omega, by go_num, by simp, rfl, by rw [List.length_tail], begin_word hlt HA.out hz hrp hwl (by omega) (by omega) rfl⟩
          case measure => simp [intOf]; omega
        · obtain ⟨n, hn⟩ : ∃ n : Nat, ps[k].len = n := ⟨ps[k].len.toNat, by omega⟩
          rw [hn] at e1 hcn t0 t1
          rw [if_neg hz] at hwn
          have hn0 : 0 < n := by omega
          have hrn : n ≤ rest.length := by omega
          have hrp : 0 < rest.length := by omega
          have hcl : cs.length + n ≤ nc := by omega
          obtain ⟨b2, o2, rfl, hS2, hb2, hc2, hlt2⟩ := wd_at HA.out.row 0 hrp
          have hrc := HA.out.cap
          clear hlenr hwd hcd hwn hcn hcp t0
          have hfl := fill_len (l := cs) (n := nc) (by omega)
          rw [hfl] at f2
          have i1 : (cs.length : Int) ≤ (nc : Int) := by omega
          have i2 : (n : Int) ≤ (rc : Int) := by omega
          have i3 : (n : Int) ≤ (rest.length : Int) := by omega
          have i4 : ¬ nc = cs.length := by omega
          have i5 : ¬ rc = 0 := by omega
          have i6 : ¬ nc - cs.length = 0 := by omega
          have hz' : ((n : Int) == 0) = false := by rw [beq_eq_false_iff_ne]; omega
          have hp1 : ∀ t : TypeId, (wr.alloc (.cells #[.bool ps[k].sec, .int .i64 (n : Int)] t)).cell? ⟨wr.heap.size, 1, none⟩ = some (.int .i64 (n : Int)) := fun t => by have := heap_alloc_new wr (.cells #[.bool ps[k].sec, .int .i64 (n : Int)] t); simp only [World.cell?, this]; rfl
          have f2a : ∀ (o' : Obj), (wr.alloc o').cell? ⟨w.heap.size + 3, 2, none⟩ = some (.slice (some ⟨C, 0, none⟩) nc nc) := fun o' => alloc_cell o' f2
          go_wp2_with fail
          have hsC : (wr.alloc (.cells #[.bool ps[k].sec, .int .i64 (n : Int)] 77)).drew.heap[C]? = some (.cells (wvs (fill cs nc)) 26) := (heap_alloc_old wr _ (lt_of_some HA.out.fr.c)).trans HA.out.fr.c
          have hlt3 : (rest.take n).length = n := by rw [List.length_take, Nat.min_eq_left hrn]
          have hmn : (rest.take n).length = Nat.min n (nc - cs.length) := by rw [hlt3]; exact (Nat.min_eq_left (by omega)).symm
          have hsr := begin_src (n := n) (z := .cells #[.bool ps[k].sec, .int .i64 (n : Int)] 77) HA.out.row HA.out.below
          have hft : cs.length + (rest.take n).length ≤ (fill cs nc).length := by rw [hlt3, hfl]; omega
          have nwc : wr.heap.size ≠ C := by have := lt_of_some HA.out.fr.c; omega
          have hwr : IntKind.i64.wrap ((cs.length : Int) + (n : Int)) = (cs.length : Int) + (n : Int) := Go.IntWalk.i64_in _ (by omega)
          have HC : Hid _ := hsC
          have HS3 : Hid _ := hsr
          have HM3 : Hid _ := hmn
          have HT3 : Hid _ := hft
          have hkeep : ∀ cs' : Array Value, ((wr.alloc (.cells #[.bool ps[k].sec, .int .i64 (n : Int)] 77)).drew.setRow C cs').cell? ⟨w.heap.size + 3, 2, none⟩ = some (.slice (some ⟨C, 0, none⟩) nc nc) ∧ ((wr.alloc (.cells #[.bool ps[k].sec, .int .i64 (n : Int)] 77)).drew.setRow C cs').cell? ⟨wr.heap.size, 1, none⟩ = some (.int .i64 (n : Int)) := fun cs' => ⟨(World.cell?_of_block (setRow_other _ _ _ _ HA.out.fr.fc)).trans (f2a _), (World.cell?_of_block (setRow_other _ _ _ _ nwc)).trans (hp1 _)⟩
          have HK3 : Hid _ := hkeep
          clear hsC hsr hmn hft hkeep
          go_region_held3 (fun w' => w'.cell? ⟨w.heap.size + 3, 2, none⟩ = some (.slice (some ⟨C, 0, none⟩) nc nc) ∧ w'.cell? ⟨wr.heap.size, 1, none⟩ = some (.int .i64 (n : Int)))
            (first | exact HK3.out _ | exact ⟨f2a _, hp1 _⟩)
            ((refine step_copy_words rfl _ _ rfl C cs.length (nc - cs.length) (nc - cs.length) n rc ⟨b2, o2, none⟩ rfl rfl (fill cs nc) (rest.take n) HC.out HM3.out HS3.out HT3.out ?_; rw [hlt3]))
          obtain ⟨q1, q2⟩ := (HK3.out (splice ((fill cs nc).map wv) cs.length ((rest.take n).map wv)).toArray)
          generalize hw4 : (splice ((fill cs nc).map wv) cs.length ((rest.take n).map wv)).toArray = RW at q1 q2 ⊢
          have HW4 : Hid _ := hw4
          clear hw4
          clear f2a hp1
          go_wp2_with fail
          go_roundw
          case rel => exact ⟨k + 1, ws, cs ++ rest.take n, rest.drop n, _, rc - n, by omega, by go_num, rfl, by simp; omega, by rw [List.length_drop], by rw [← HW4.out]; exact begin_row hlt HA.out hn hz hrn hcl (by omega) (by omega) rfl⟩
          case measure => simp [intOf]; omega
      · have hke : k = ps.length := by omega
        have hfin := begin_fin hke HA.out
        have hbl2 := HA.out.below
        clear HA hke
        go_wp2_with fail
        go_ret
        exact ⟨⟨w.heap.size + 3, G, C, rfl, hfin, by omega, by omega, by omega⟩, hbl2⟩
end Go.Proofs.Ytndmkfmpdnoliaa
