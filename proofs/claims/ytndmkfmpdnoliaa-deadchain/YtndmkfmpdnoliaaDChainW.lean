/- THE WALK of DeadChain. -/
import Derived.Test.YtndmkfmpdnoliaaDAwake
import Derived.Test.YtndmkfmpdnoliaaDChainM
import Derived.Test.YtndmkfmpdnoliaaIApp2
namespace Go.Proofs.Ytndmkfmpdnoliaa
open Go.ChangeShapes Go.WideShapes Go.ChangeAt Go.RowKit

abbrev boxC (n : Nat) (v : Value) : Obj := .cells #[.string ⟨#[97, 46, 102]⟩, .slice none 0 0, .int .i64 ((n : Int) + 2), .int .i64 0, v] 39
abbrev irC1 : Obj := .cells #[.int .i64 1, .int .i64 0, .int .i64 0, .int .i64 0, .int .i64 0, .int .i64 0, .int .u32 5, .string ⟨#[]⟩, .slice none 0 0] 50
/-- What is written so far: the row is the call's own, and apart from the box. -/
structure WC (w : World) (n m : Nat) (o : List Ir) (x : Option Addr) (c : Nat) (wr : World) : Prop where
  len : o.length = m
  out : kIr.own 50 wr (fun _ => False) w.heap.size (.slice x m c) o
  box : wr.heap[w.heap.size + 1]? = some (boxC n (.slice x m c))
  apart : (Value.slice x m c).ownBlock ≠ some (w.heap.size + 1)
  below : Below w.heap.size w wr
theorem WC.start (w : World) (n : Nat) : WC w n 1 [⟨1, 0, 0, 0, 0, 0, 5, [], []⟩] (some ⟨w.heap.size, 0, none⟩) 1 ((w.alloc irC1).alloc (boxC n (.slice (some ⟨w.heap.size, 0, none⟩) 1 1))) := by
  obtain ⟨h1, h2, h3, h4⟩ := two_box' w irC1 (boxC n (.slice (some ⟨w.heap.size, 0, none⟩) 1 1))
  refine ⟨rfl, ⟨irsCells [⟨1, 0, 0, 0, 0, 0, 5, [], []⟩], ⟨rfl, .inr ⟨w.heap.size, 1, _, rfl, Nat.le_refl _, h1, Nat.le_refl _, by decide, rfl, rfl⟩⟩, irs_lay ?_⟩, h2, ?_, h3⟩
  · intro x hx
    simp at hx
    subst hx
    exact ⟨rfl, by decide⟩
  · intro e
    have : w.heap.size = w.heap.size + 1 := Option.some.inj e
    omega
theorem WC.grown {w w0 w1 wr : World} {n m : Nat} {o : List Ir} {x : Option Addr} {c : Nat} (h : WC w n m o x c wr) (hk : Kept (fun _ => False) wr w0) (hg : w0.grownBy w1 (Value.slice x m c).ownBlock) :
    w1.heap[w.heap.size + 1]? = some (boxC n (.slice x m c)) := by
  have hb := lt_of_some h.box
  have hs := hk.size
  exact (hg.block _ (by omega) h.apart.symm).trans ((hk.block _ hb (fun e => e)).trans h.box)
theorem WC.push {w w0 w1 wr : World} {n m : Nat} {o : List Ir} {x y : Option Addr} {c c1 : Nat} {cs : List Value} {z : Ir} (h : WC w n m o x c wr) (hk : Kept (fun _ => False) wr w0) (hcs : kIr.lay wr (fun _ => False) cs o)
    (hown1 : w1.ownsRow w.heap.size 50 9 (.slice y (m + 1) c1) (m + 1) (cs ++ irCells z none 0)) (hg : w0.grownBy w1 (Value.slice x m c).ownBlock) (hat : (Value.slice y (m + 1) c1).ownBlock = (Value.slice x m c).ownBlock ∨ (Value.slice y (m + 1) c1).ownBlock = some w0.heap.size) (hz : z.args = []) (hzn : z.n < 4294967296) :
    WC w n (m + 1) (o ++ [z]) y c1 (w1.setCell ⟨w.heap.size + 1, 4, none⟩ (.slice y (m + 1) c1)) := by
  have hlv : ∀ g, (Value.slice x m c).ownBlock = some g → w.heap.size ≤ g := fun g hg => (kIr.own_lt h.out g hg).1
  have hb := lt_of_some h.box
  have hs := hk.size
  have hne : (Value.slice y (m + 1) c1).ownBlock ≠ some (w.heap.size + 1) := fun e => by
    rcases hat with e1 | e1
    · exact h.apart (e1 ▸ e)
    · rw [e1] at e; have := Option.some.inj e; omega
  have hset := Kept.set w1 (w.heap.size + 1) 4 (.slice y (m + 1) c1)
  have hk1 : Kept (fun j => (Value.slice x m c).ownBlock = some j) wr w1 := (hk.mono fun _ _ e => e.elim).trans (Kept.of_grown hg)
  refine ⟨by simp [h.len], ⟨cs ++ irCells z none 0, ?_, kIr.lay_snoc ⟨none, 0, rfl, by rw [hz]; exact Nat.le_refl _, hzn, by rw [hz]; trivial⟩ (kIr.lay_mono hcs fun _ e => e.elim)⟩, ?_, hne, ?_⟩
  · rw [show (o ++ [z]).length = m + 1 by simp [h.len]]
    exact own_kept hown1 hset fun g hg e => hne (by rw [hg, e])
  · rw [setCell_at (h.grown hk hg)]; rfl
  · refine Kept.to_below (((Below.kept h.below (fun i => w.heap.size ≤ i)).trans (hk1.mono fun i _ e => hlv i e)).trans (hset.mono fun i _ e => ?_)) fun _ hi => hi
    omega
theorem WC.cells {w wr : World} {n m : Nat} {o : List Ir} {x : Option Addr} {c : Nat} (h : WC w n m o x c wr) : ∃ cs, wr.ownsRow w.heap.size 50 9 (.slice x m c) m cs ∧ kIr.lay wr (fun _ => False) cs o := by
  obtain ⟨cs, h1, h2⟩ := h.out
  exact ⟨cs, by rw [← h.len]; rw [← h.len] at h1; exact h1, h2⟩
theorem src_atC {w0 : World} {g : Nat} {z : Ir} (h : w0.heap[g]? = some (.cells (irCells z none 0).toArray 50)) : Src Try.prog 9 37 (.slice (some ⟨g, 0, none⟩) 1 1) 1 (irCells z none 0) w0 :=
  Src.ofSlice _ Try.underlying37 ⟨g, 0, none⟩ 1 1 (irCells z none 0) rfl (World.news_of_block (cs := (irCells z none 0).toArray) (t := 50) (fr := (0, 0)) h) (by simp [irCells, Value.oneCell'])
theorem ch_ok (n r : Nat) : CoOk (chC n r) := ⟨by show ([97, 46, 102] : List UInt8).length ≤ _; decide, fun y hy => by
  have hy2 : y ∈ (⟨1, 0, 0, 0, 0, 0, 5, [], []⟩ : Ir) :: seg 0 n ++ [rtX r] := hy
  rcases List.mem_append.1 hy2 with h | h
  · rcases List.mem_cons.1 h with rfl | h
    · exact ⟨Nat.zero_le _, Nat.zero_le _⟩
    · obtain ⟨i, _, _, rfl⟩ := seg_mem h
      exact ⟨Nat.zero_le _, Nat.zero_le _⟩
  · rw [List.mem_singleton.1 h]
    exact ⟨Nat.zero_le _, Nat.zero_le _⟩⟩
theorem ch_d64 {n r : Nat} (hn : n ≤ 100) : D64 (chC n r).l := fun y hy => by
  have hy2 : y ∈ (⟨1, 0, 0, 0, 0, 0, 5, [], []⟩ : Ir) :: seg 0 n ++ [rtX r] := hy
  rcases List.mem_append.1 hy2 with h | h
  · rcases List.mem_cons.1 h with rfl | h
    · exact ⟨by decide, by decide⟩
    · obtain ⟨i, _, h2, rfl⟩ := seg_mem h
      exact ⟨by simp only [cpX]; omega, by simp only [cpX]; omega⟩
  · rw [List.mem_singleton.1 h]
    exact ⟨by simp [rtX], by simp [rtX]⟩
theorem ch_drop {B : Nat} {w : World} {n r c : Nat} {a : Option Addr} (hn : n ≤ 100) (hr : r < n + 2) (hg : Glob B w) (h : kIr.row w (fun _ => True) a (chL n r)) (hc : (chL n r).length ≤ c) :
    Calls Try.prog 17 #[.agg #[.string ⟨#[97, 46, 102]⟩, .slice none 0 0, .int .i64 ((n : Int) + 2), .int .i64 0, .slice a (n + 2) c]] w fun e w' => ∃ qa qc ra rc, e = .returned (.tuple #[.agg #[.string ⟨#[97, 46, 102]⟩, .slice qa 0 qc, .int .i64 ((n : Int) + 2), .int .i64 0, .slice ra (freeL (chL n r)).length rc], .int .i64 0]) ∧ Below w.heap.size w w' := by
  have := drop_yesN (S := fun _ => True) (chC n r) none 0 a c w ⟨Nat.le_refl _, hc, trivial, h⟩ (ch_ok n r) (ch_d64 hn) hg (ch_right hn hr)
  rw [show (chC n r).l.length = n + 2 from chL_len n r] at this
  refine this.mono fun e w' hh => ?_
  obtain ⟨qa, qc, ra, rc, rfl, _, h2⟩ := hh
  exact ⟨qa, qc, ra, rc, rfl, h2⟩
set_option maxRecDepth 100000 in
set_option maxHeartbeats 8000000 in
theorem dead_chain {B : Nat} (z : Int) (rd : Bool) (w : World) (hg : Glob B w) :
    Calls Try.prog 9 #[.int .i64 z, .bool rd] w fun e w' => e = .returned (.bool true) ∧ Below w.heap.size w w' := by
  have haw := awake10_any w hg
  go_enter Try.func9, Try.ntmps9
  go_upto_region 2 with (first | (go_at_call 16; refine haw.mono ?_; rintro e w2 ⟨rfl, hb2⟩))
  have HB2 : Hid _ := hb2
  clear hb2 haw
  by_cases h0 : z < 0
  · go_wp2
    go_ret
    exact ⟨rfl, HB2.out⟩
  by_cases h100 : 100 < z
  · go_wp2
    go_ret
    exact ⟨rfl, HB2.out⟩
  obtain ⟨n, rfl⟩ : ∃ n : Nat, z = n := ⟨z.toNat, by omega⟩
  have hn : n ≤ 100 := by omega
  have HW : Hid _ := WC.start w2 n
  go_upto_region 5 with fail
  generalize World.alloc (World.alloc w2 _) _ = w3 at HW ⊢
  clear h0 h100
  go_wp2
  go_loopw [7] (fun i wr => ∃ (k : Nat) (vx : Option Addr) (vc : Nat), k ≤ n ∧ i = .int .i64 k ∧ WC w2 n (1 + k) ((⟨1, 0, 0, 0, 0, 0, 5, [], []⟩ : Ir) :: seg 0 k) vx vc wr) (fun i _ => n - (intOf i).toNat)
  case atStart => exact ⟨0, _, _, Nat.zero_le _, rfl, HW.out⟩
  case round =>
    obtain ⟨k, vx, vc, hk, rfl, hA⟩ := hrel
    have HA : Hid _ := hA
    obtain ⟨k0, k1, k2, k3, k4⟩ := five hA.box
    have hfz := brow_free hA.box 4
    have hsz := lt_of_some hA.box
    obtain ⟨cs, hown, hlay⟩ := hA.cells
    have HL : Hid _ := hlay
    by_cases hlt : k < n
    · have hk0 : (0 : Int) ≤ (k : Int) := by omega
      have hO : Hid ((⟨1, 0, 0, 0, 0, 0, 5, [], []⟩ : Ir) :: seg 0 (k + 1) = ((⟨1, 0, 0, 0, 0, 0, 5, [], []⟩ : Ir) :: seg 0 k) ++ [cpX k]) := by show _ = _; rw [seg_snoc, Nat.zero_add]; rfl
      have HK : Hid (Kept (fun _ => False) wr (wr.alloc (.cells #[.int .i64 2, .int .i64 0, .int .i64 ((k : Int) + 1), .int .i64 (k : Int), .int .i64 0, .int .i64 0, .int .u32 0, .string ⟨#[]⟩, .slice none 0 0] 50))) := Kept.alloc wr _ _
      have hsrc : Src Try.prog 9 37 (.slice (some ⟨wr.heap.size, 0, none⟩) 1 1) 1 (irCells (cpX k) none 0) (wr.alloc (.cells #[.int .i64 2, .int .i64 0, .int .i64 ((k : Int) + 1), .int .i64 (k : Int), .int .i64 0, .int .i64 0, .int .u32 0, .string ⟨#[]⟩, .slice none 0 0] 50)) := src_atC (z := cpX k) (heap_alloc_new wr _)
      have hownA := own_kept hown HK.out (fun _ _ e => e)
      have hbs : w2.heap.size ≤ (wr.alloc (.cells #[.int .i64 2, .int .i64 0, .int .i64 ((k : Int) + 1), .int .i64 (k : Int), .int .i64 0, .int .i64 0, .int .u32 0, .string ⟨#[]⟩, .slice none 0 0] 50)).heap.size := Nat.le_trans hA.below.size HK.out.size
      clear hA hlay hown hfz k0 k1 k2 k3
      go_upto_region 7 with (first | (at_builtin; refine wpList_append_big ir_info rfl Try.underlying37 (by decide) _ rfl _ _ rfl w2.heap.size (.slice vx (1 + k) vc) (1 + k) cs rfl hownA _ 1 (irCells (cpX k) none 0) rfl hsrc (by omega) hbs ?_; intro y c1 w1 hown1 hgrow hat; have hgr := HA.out.grown HK.out hgrow; have e5 := brow_free hgr 4; have e7 := (five hgr).2.2.2.2))
      have HP : Hid _ := HA.out.push HK.out HL.out hown1 hgrow hat rfl (by show (0 : Nat) < 4294967296; decide)
      rw [← hO.out] at HP
      clear hown1 hgrow hat hgr e5 e7 hownA hsrc hbs HK HL HA
      go_wp2_with fail
      go_roundw
      case rel => exact ⟨k + 1, y, c1, by omega, by go_num, HP.out⟩
      case measure => simp [intOf]; omega
    · have hkl : k = n := by omega
      subst hkl
      cases rd
      · have hsrc : Src Try.prog 9 37 (.slice (some ⟨wr.heap.size, 0, none⟩) 1 1) 1 (irCells (rtX (k + 1)) none 0) (wr.alloc (.cells #[.int .i64 10, .int .i64 0, .int .i64 0, .int .i64 ((k : Int) + 1), .int .i64 0, .int .i64 0, .int .u32 0, .string ⟨#[]⟩, .slice none 0 0] 50)) := src_atC (z := rtX (k + 1)) (heap_alloc_new wr _)
        have HK : Hid (Kept (fun _ => False) wr (wr.alloc (.cells #[.int .i64 10, .int .i64 0, .int .i64 0, .int .i64 ((k : Int) + 1), .int .i64 0, .int .i64 0, .int .u32 0, .string ⟨#[]⟩, .slice none 0 0] 50))) := Kept.alloc wr _ _
        have hownA := own_kept hown HK.out (fun _ _ e => e)
        have hbs : w2.heap.size ≤ (wr.alloc (.cells #[.int .i64 10, .int .i64 0, .int .i64 0, .int .i64 ((k : Int) + 1), .int .i64 0, .int .i64 0, .int .u32 0, .string ⟨#[]⟩, .slice none 0 0] 50)).heap.size := Nat.le_trans hA.below.size HK.out.size
        clear hA hlay hown hfz k0 k1 k2 k3 hlt hk HW
        go_upto_region 13 with (first | (at_builtin; refine wpList_append_big ir_info rfl Try.underlying37 (by decide) _ rfl _ _ rfl w2.heap.size (.slice vx (1 + k) vc) (1 + k) cs rfl hownA _ 1 (irCells (rtX (k + 1)) none 0) rfl hsrc (by omega) hbs ?_; intro y c1 w1 hown1 hgrow hat; have hgr := HA.out.grown HK.out hgrow; have e5 := brow_free hgr 4; have e7 := (five hgr).2.2.2.2))
        have hP : WC w2 k (1 + k + 1) (chL k (k + 1)) y c1 _ := HA.out.push (z := rtX (k + 1)) HK.out HL.out hown1 hgrow hat rfl (by show (0 : Nat) < 4294967296; decide)
        clear hown1 hgrow hat hgr e5 e7 hownA hsrc hbs HK HL HA k4
        generalize World.setCell w1 _ _ = v5 at hP ⊢
        obtain ⟨ay, cy, ey, hrowY, hcy⟩ := kIr.own_rd (T := fun _ => True) hP.out (fun _ _ => trivial) (fun _ _ => trivial)
        injection ey with ey1 ey2 ey3
        subst ey1
        subst ey3
        have e12 : 1 + k + 1 = k + 2 := by omega
        have HB5 : Hid _ := bl_then HB2.out hP.below
        have hfo := ch_drop hn (by omega) (hg.below HB5.out) hrowY hcy
        rw [ch_none] at hfo
        have hbx := hP.box
        rw [e12] at hbx ⊢
        obtain ⟨k0, k1, k2, k3, k4⟩ := five hbx
        clear hP hrowY ey2 hbx e12
        go_upto_region 14 with (first | (go_at_call 17; refine hfo.mono ?_; rintro e w6 ⟨qa, qc, ra, rc, rfl, hb6⟩))
        have hx7 := heap_alloc_new w6 (.cells #[.string ⟨#[97, 46, 102]⟩, .slice qa 0 qc, .int .i64 ((k : Int) + 2), .int .i64 0, .slice ra (1) rc] 39)
        have HB7 : Hid _ := bl_alloc (bl_then HB5.out hb6) (.cells #[.string ⟨#[97, 46, 102]⟩, .slice qa 0 qc, .int .i64 ((k : Int) + 2), .int .i64 0, .slice ra (1) rc] 39)
        clear hb6 hfo k0 k1 k2 k3 k4
        generalize World.alloc w6 _ = w7 at hx7 HB7 ⊢
        obtain ⟨j0, j1, j2, j3, j4⟩ := five hx7
        have hee : (((k : Int) + 2) == ((k : Int) + 2)) = true := beq_self_eq_true _
        clear hx7
        go_wp2
        go_ret
        exact ⟨rfl, HB7.out⟩
      · have hsrc : Src Try.prog 9 37 (.slice (some ⟨wr.heap.size, 0, none⟩) 1 1) 1 (irCells (rtX k) none 0) (wr.alloc (.cells #[.int .i64 10, .int .i64 0, .int .i64 0, .int .i64 ((k : Int)), .int .i64 0, .int .i64 0, .int .u32 0, .string ⟨#[]⟩, .slice none 0 0] 50)) := src_atC (z := rtX k) (heap_alloc_new wr _)
        have HK : Hid (Kept (fun _ => False) wr (wr.alloc (.cells #[.int .i64 10, .int .i64 0, .int .i64 0, .int .i64 ((k : Int)), .int .i64 0, .int .i64 0, .int .u32 0, .string ⟨#[]⟩, .slice none 0 0] 50))) := Kept.alloc wr _ _
        have hownA := own_kept hown HK.out (fun _ _ e => e)
        have hbs : w2.heap.size ≤ (wr.alloc (.cells #[.int .i64 10, .int .i64 0, .int .i64 0, .int .i64 ((k : Int)), .int .i64 0, .int .i64 0, .int .u32 0, .string ⟨#[]⟩, .slice none 0 0] 50)).heap.size := Nat.le_trans hA.below.size HK.out.size
        clear hA hlay hown hfz k0 k1 k2 k3 hlt hk HW
        go_upto_region 13 with (first | (at_builtin; refine wpList_append_big ir_info rfl Try.underlying37 (by decide) _ rfl _ _ rfl w2.heap.size (.slice vx (1 + k) vc) (1 + k) cs rfl hownA _ 1 (irCells (rtX k) none 0) rfl hsrc (by omega) hbs ?_; intro y c1 w1 hown1 hgrow hat; have hgr := HA.out.grown HK.out hgrow; have e5 := brow_free hgr 4; have e7 := (five hgr).2.2.2.2))
        have hP : WC w2 k (1 + k + 1) (chL k (k)) y c1 _ := HA.out.push (z := rtX k) HK.out HL.out hown1 hgrow hat rfl (by show (0 : Nat) < 4294967296; decide)
        clear hown1 hgrow hat hgr e5 e7 hownA hsrc hbs HK HL HA k4
        generalize World.setCell w1 _ _ = v5 at hP ⊢
        obtain ⟨ay, cy, ey, hrowY, hcy⟩ := kIr.own_rd (T := fun _ => True) hP.out (fun _ _ => trivial) (fun _ _ => trivial)
        injection ey with ey1 ey2 ey3
        subst ey1
        subst ey3
        have e12 : 1 + k + 1 = k + 2 := by omega
        have HB5 : Hid _ := bl_then HB2.out hP.below
        have hfo := ch_drop hn (by omega) (hg.below HB5.out) hrowY hcy
        rw [ch_all] at hfo
        have hbx := hP.box
        rw [e12] at hbx ⊢
        obtain ⟨k0, k1, k2, k3, k4⟩ := five hbx
        clear hP hrowY ey2 hbx e12
        go_upto_region 14 with (first | (go_at_call 17; refine hfo.mono ?_; rintro e w6 ⟨qa, qc, ra, rc, rfl, hb6⟩))
        have hx7 := heap_alloc_new w6 (.cells #[.string ⟨#[97, 46, 102]⟩, .slice qa 0 qc, .int .i64 ((k : Int) + 2), .int .i64 0, .slice ra (k + 2) rc] 39)
        have HB7 : Hid _ := bl_alloc (bl_then HB5.out hb6) (.cells #[.string ⟨#[97, 46, 102]⟩, .slice qa 0 qc, .int .i64 ((k : Int) + 2), .int .i64 0, .slice ra (k + 2) rc] 39)
        clear hb6 hfo k0 k1 k2 k3 k4
        generalize World.alloc w6 _ = w7 at hx7 HB7 ⊢
        obtain ⟨j0, j1, j2, j3, j4⟩ := five hx7
        have hee : (((k : Int) + 2) == ((k : Int) + 2)) = true := beq_self_eq_true _
        clear hx7
        go_wp2
        go_ret
        exact ⟨rfl, HB7.out⟩
end Go.Proofs.Ytndmkfmpdnoliaa
