/- CONTRACTS of words, registers, of the closure that minds what is met, of Meet. -/
import Derived.Test.YtkbanngbchhgaaaNRow
import Derived.Test.YtkbanngbchhgaaaIApp
import Derived.Test.YtkbanngbchhgaaaIFull
import Derived.Deep.RegionLaw
import Derived.Deep.RegionHeld3
import Derived.Deep.CutBlock
import Derived.Deep.QuietTactic
namespace Go.Proofs.Ytkbanngbchhgaaa
open Go.ChangeShapes Go.WideShapes Go.ChangeAt Go.RowKit

set_option maxRecDepth 100000 in
set_option maxHeartbeats 1000000 in
theorem words_any {S : Nat → Prop} (w : World) (a : Option Addr) (l : List Ty) (c : Nat) (h : kTy.row w S a l) (hl : l.length ≤ 1000000) :
    Calls Try.prog 23 #[.slice a l.length c] w fun e w' => e = .returned (.int .i64 (wordsN l : Nat)) ∧ Below w.heap.size w w' := by
  go_enter Try.func23, Try.ntmps23
  go_wp2
  go_loopw [3, 8] (fun n i wr => ∃ k : Nat, k ≤ l.length ∧ i = .int .i64 k ∧ n = .int .i64 (wordsN (l.take k) : Nat) ∧ Below w.heap.size w wr) (fun _ i _ => l.length - (intOf i).toNat)
  case atStart => exact ⟨0, Nat.zero_le _, rfl, rfl, Below.refl _ _⟩
  case round =>
    obtain ⟨k, hk, rfl, rfl, hbl⟩ := hrel
    have HB : Hid (Below w.heap.size w wr) := hbl
    by_cases hlt : k < l.length
    · obtain ⟨b, o, rfl, hS, hb, h0, h1⟩ := ty_at h k hlt
      have e0 := (hbl.cell (p := ⟨b, o + k * 2, none⟩) hb).trans h0
      have e1 := (hbl.cell (p := ⟨b, o + k * 2 + 1, none⟩) hb).trans h1
      have HW := wordsN_take l k hlt
      have hw1 := wordsN_bd (l.take k)
      have hlen : (l.take k).length ≤ k := by rw [List.length_take]; omega
      have hw2 : wordsN (l.take k) ≤ 1000000 := by omega
      generalize hgw : wordsN (l.take k) = nw at HW hw2
      have HW' : Hid _ := HW
      generalize hgt : l[k].len = tl at e1 HW HW'
      have hk0 : (0 : Int) ≤ (k : Int) := by omega
      have hk1 : (k : Int) < (l.length : Int) := by omega
      clear h0 h1 hbl HW hw1 hlen hgt
      by_cases hz : tl = 0
      · subst hz
        go_wp2_with fail
        go_roundw
        case rel => exact ⟨k + 1, by omega, by go_num, by rw [HW'.out]; simp, bl_alloc HB.out _⟩
        case measure => simp [intOf]; omega
      · have hz' : (tl == 0) = false := by simpa using hz
        go_wp2_with fail
        go_roundw
        case rel => exact ⟨k + 1, by omega, by go_num, by rw [HW'.out]; simp [hz], bl_alloc HB.out _⟩
        case measure => simp [intOf]; omega
    · obtain rfl : k = l.length := by omega
      rw [List.take_length]
      go_wp2_with fail
      go_ret
      exact ⟨rfl, HB.out⟩
theorem own_oneI {W : World} {base b : Nat} {x : Int} (hb : base ≤ b) (h : W.heap[b]? = some (.cells #[.int .i64 x] 3)) : W.ownsRow base 3 1 (.slice (some ⟨b, 0, none⟩) 1 1) 1 [.int .i64 x] :=
  ⟨rfl, .inr ⟨b, 1, _, rfl, hb, h, Nat.le_refl _, by decide, rfl, rfl⟩⟩
theorem lay_cons {W W' : World} {S T : Nat → Prop} {x : Int} {l : List Int} {cs : List Value} (h : kInt.lay W S cs l) : kInt.lay W' T (.int .i64 x :: cs) (x :: l) := by
  refine ⟨[.int .i64 x], cs, rfl, rfl, ?_⟩
  induction l generalizing cs with
  | nil => exact h
  | cons y l ih =>
    obtain ⟨c1, ys, rfl, hC, hr⟩ := h
    exact ⟨c1, ys, rfl, hC, ih hr⟩
theorem reg_new (w : World) (o1 : Obj) (l : List Int) : kInt.rd ((w.alloc o1).alloc (.cells (l.map (Value.int .i64)).toArray 3)) (fun b => w.heap.size ≤ b) (.slice (some ⟨w.heap.size + 1, 0, none⟩) l.length l.length) l := by
  obtain ⟨a, c, h1, h2, h3⟩ := new_ints (S := fun b => w.heap.size ≤ b) w o1 l 3
  exact ⟨a, c, h1, kInt.row_mono (by decide) h2 fun b hb _ => ⟨by rcases hb with h | h <;> exact h, rfl⟩, h3⟩
set_option maxHeartbeats 4000000 in
theorem registers_any {S : Nat → Prop} (x : Ir) (a : Option Addr) (c : Nat) (w : World) (hr : kInt.row w S a x.args) (h6 : x.kind = 7 → x.args.length ≤ 1000) :
    Calls Try.prog 25 #[irV x a c] w fun e w' => (∃ v, e = .returned v ∧ kInt.rd w' (fun b => w.heap.size ≤ b) v (regsL x)) ∧ Below w.heap.size w w' := by
  obtain ⟨kd, op, d, xa, xb, xc, n, nm, ag⟩ := x
  unfold irV
  simp only [regsL] at *
  by_cases h1 : kd = 1 ∨ kd = 5
  · rw [if_pos h1]
    rcases h1 with rfl | rfl
    all_goals
      go_enter Try.func25, Try.ntmps25
      go_wp2
      go_ret
      exact ⟨⟨_, rfl, reg_new w _ [d]⟩, bl_alloc (bl_alloc (Below.refl _ _) _) _⟩
  rw [if_neg h1]
  have g1 : (kd == 1) = false := by simp; omega
  have g5 : (kd == 5) = false := by simp; omega
  by_cases h2 : kd = 2
  · rw [if_pos h2]
    subst h2
    go_enter Try.func25, Try.ntmps25
    go_wp2
    go_ret
    exact ⟨⟨_, rfl, reg_new w _ [d, xa]⟩, bl_alloc (bl_alloc (Below.refl _ _) _) _⟩
  rw [if_neg h2]
  have g2 : (kd == 2) = false := by simpa using h2
  by_cases h3 : kd = 3
  · rw [if_pos h3]
    subst h3
    go_enter Try.func25, Try.ntmps25
    go_wp2
    go_ret
    exact ⟨⟨_, rfl, reg_new w _ [d, xa, xb]⟩, bl_alloc (bl_alloc (Below.refl _ _) _) _⟩
  rw [if_neg h3]
  have g3 : (kd == 3) = false := by simpa using h3
  by_cases h4 : kd = 4
  · rw [if_pos h4]
    subst h4
    go_enter Try.func25, Try.ntmps25
    go_wp2
    go_ret
    exact ⟨⟨_, rfl, reg_new w _ [d, xa, xb, xc]⟩, bl_alloc (bl_alloc (Below.refl _ _) _) _⟩
  rw [if_neg h4]
  have g4 : (kd == 4) = false := by simpa using h4
  by_cases h7 : kd = 7
  · rw [if_pos h7]
    subst h7
    obtain ⟨W, hW⟩ : ∃ W, W = (w.alloc (.cells #[.int .i64 7, .int .i64 op, .int .i64 d, .int .i64 xa, .int .i64 xb, .int .i64 xc, .int .u32 (n : Int), .string (bs nm), .slice a ag.length c] 43)).alloc (.cells #[.int .i64 d] 3) := ⟨_, rfl⟩
    have hbW : Below w.heap.size w W := by rw [hW]; exact bl_alloc (bl_alloc (Below.refl _ _) _) _
    have hrW : kInt.row W S a ag := kInt.row_mono (by decide) hr fun k hk hlt => ⟨hk, hbW.block k hlt⟩
    obtain ⟨cs, hlay, hsrc⟩ := kInt.src (c := c) (tx := 39) Try.underlying39 hrW
    have hof : W.ownsRow (w.heap.size + 1) 3 1 (.slice (some ⟨w.heap.size + 1, 0, none⟩) 1 1) 1 [.int .i64 d] := by
      rw [hW]
      refine own_oneI (Nat.le_refl _) ?_
      have := heap_alloc_new (w.alloc (.cells #[.int .i64 7, .int .i64 op, .int .i64 d, .int .i64 xa, .int .i64 xb, .int .i64 xc, .int .u32 (n : Int), .string (bs nm), .slice a ag.length c] 43)) (.cells #[.int .i64 d] 3)
      simpa using this
    have hsz : w.heap.size + 1 ≤ W.heap.size := by rw [hW]; simp
    rw [hW] at hsrc hof hsz
    have HW : Hid _ := hW
    have HL : Hid _ := hlay
    have HB : Hid _ := hbW
    have h6' : ag.length ≤ 1000 := h6 rfl
    clear h6 hW hlay hbW hrW
    go_enter Try.func25, Try.ntmps25
    go_wp2_with (first | (at_builtin; go_loud (refine wpList_append_src int_info rfl Try.underlying39 (by decide) _ rfl _ _ rfl (w.heap.size + 1) (Value.slice (some ⟨w.heap.size + 1, 0, none⟩) 1 1) 1 [.int .i64 d] rfl hof _ ag.length cs rfl hsrc (by omega) hsz ?_; intro y c2 w2 hown hgrow hat; refine Hid.out ?_)) | go_in)
    refine Lib.hid ?_
    rw [← HW.out] at hgrow
    have hb2 : Below w.heap.size w w2 := by
      refine Kept.to_below ((Below.kept HB.out (fun k => w.heap.size ≤ k)).trans ((Kept.of_grown hgrow).mono fun k _ hk => ?_)) fun k hk => hk
      have : w.heap.size + 1 = k := by simpa [Value.ownBlock] using hk
      omega
    have hown' : w2.ownsRow (w.heap.size + 1) 3 1 (.slice y (ag.length + 1) c2) (ag.length + 1) (.int .i64 d :: cs) := by rw [Nat.add_comm ag.length 1]; exact hown
    have hrd : kInt.rd w2 (fun b => w.heap.size ≤ b) (.slice y (ag.length + 1) c2) (d :: ag) := kInt.own_rd (t := 3) (S := fun b => w.heap.size ≤ b) (l := d :: ag) ⟨_, hown', lay_cons HL.out⟩ (fun _ h => h) fun g hg => by have := (hown'.lt g hg).1; omega
    have HO : Hid _ := hrd
    have HB2 : Hid _ := hb2
    clear hown hgrow hat hown' hrd hb2 hof hsrc hsz
    go_wp2
    go_ret
    refine ⟨⟨_, rfl, ?_⟩, HB2.out⟩
    rw [Nat.add_comm 1 ag.length]
    exact HO.out
  rw [if_neg h7]
  have g7 : (kd == 7) = false := by simpa using h7
  by_cases h69 : kd = 6 ∨ kd = 9 ∨ kd = 10
  · rw [if_pos h69]
    rcases h69 with rfl | rfl | rfl
    all_goals
      go_enter Try.func25, Try.ntmps25
      go_wp2
      go_ret
      exact ⟨⟨_, rfl, reg_new w _ [xa]⟩, bl_alloc (bl_alloc (Below.refl _ _) _) _⟩
  rw [if_neg h69]
  have g6 : (kd == 6) = false := by simp; omega
  have g9 : (kd == 9) = false := by simp; omega
  have g10 : (kd == 10) = false := by simp; omega
  go_enter Try.func25, Try.ntmps25
  go_wp2
  go_ret
  exact ⟨⟨_, rfl, none, 0, rfl, trivial, Nat.le_refl _⟩, bl_alloc (Below.refl _ _) _⟩
set_option maxHeartbeats 4000000 in
theorem met_any (gb ob pb g : Nat) (o : List (Int × Int)) (r : Nat) (t : Int) (w : World) (hgb : w.heap[gb]? = some (.cells #[.int .i64 (g : Nat)] 3))
    (hob : w.heap[ob]? = some (.cells #[.slice (some ⟨pb, 0, none⟩) o.length o.length] 31)) (hpb : w.heap[pb]? = some (spB o)) (hr : r < o.length) (n2 : ob ≠ pb) :
    Calls Try.prog 24 #[.int .i64 r, .int .i64 t, .pointer (some ⟨gb, 0, none⟩), .pointer (some ⟨ob, 0, none⟩)] w fun e w' => e = .returned (.tuple #[]) ∧ w'.heap[pb]? = some (spB (metL g t o (r : Int))) ∧ Kept (fun k => k = pb) w w' := by
  have c1 : w.cell? ⟨gb, 0, none⟩ = some (.int .i64 (g : Nat)) := by simp [World.cell?, hgb]
  have c2 : w.cell? ⟨ob, 0, none⟩ = some (.slice (some ⟨pb, 0, none⟩) o.length o.length) := by simp [World.cell?, hob]
  obtain ⟨d0, d1⟩ := sp_cell hpb r hr
  have f1 := sp_free hpb (r * 2)
  have f2 := sp_free hpb (r * 2 + 1)
  have hE : metL g t o (r : Int) = o.set r (metS g r o[r] t) := by
    unfold metL
    rw [Int.toNat_natCast, List.getD_eq_getElem?_getD, List.getElem?_eq_getElem hr]
    rfl
  have HE : Hid _ := hE
  have HP : Hid _ := hpb
  have HO : Hid _ := hob
  have HG : Hid _ := hgb
  have i0 : (0 : Int) ≤ (r : Int) := by omega
  have i1 : (r : Int) < (o.length : Int) := by omega
  clear hE hpb hob hgb
  by_cases hg : (g : Int) ≤ (r : Int)
  · by_cases hz : o[r].2 < 0
    · have HM : Hid (metS g r o[r] t = (t, t)) := by show _ = _; unfold metS; rw [if_pos ⟨by omega, hz⟩]
      have hk0 := sp_set0 HP.out r t hr
      have hk1 := sp_set1 hk0 r t (by simpa using hr)
      have HK : Hid _ := hk1
      have e1 : (w.setCell ⟨pb, r * 2, none⟩ (.int .i64 t)).cell? ⟨ob, 0, none⟩ = some (.slice (some ⟨pb, 0, none⟩) o.length o.length) := by rw [World.cell?_setCell_other _ _ _ _ (by simp)]; exact c2
      have e2 : (w.setCell ⟨pb, r * 2, none⟩ (.int .i64 t)).cell? ⟨pb, r * 2 + 1, none⟩ = some (.int .i64 o[r].2) := by rw [World.cell?_setCell_other _ _ _ _ (by simp)]; exact d1
      have e3 : (w.setCell ⟨pb, r * 2, none⟩ (.int .i64 t)).frozen? ⟨pb, r * 2 + 1, none⟩ = false := by rw [World.frozen?_setCell]; exact f2
      clear hk0 hk1
      go_enter Try.func24, Try.ntmps24
      go_wp2_with fail
      go_end0
      exact ⟨rfl, by rw [HE.out, HM.out]; have := HK.out; simpa using this, ((Kept.set w pb _ _).mono fun _ _ h => h).trans (Kept.set _ pb _ _)⟩
    · have HM : Hid (metS g r o[r] t = (o[r].1, t)) := by show _ = _; unfold metS; rw [if_neg (fun h => hz h.2)]
      have hk1 := sp_set1 HP.out r t hr
      have HK : Hid _ := hk1
      clear hk1
      go_enter Try.func24, Try.ntmps24
      go_wp2_with fail
      go_end0
      exact ⟨rfl, by rw [HE.out, HM.out]; exact HK.out, Kept.set w pb _ _⟩
  · have HM : Hid (metS g r o[r] t = (o[r].1, t)) := by show _ = _; unfold metS; rw [if_neg (fun h => by omega)]
    have hk1 := sp_set1 HP.out r t hr
    have HK : Hid _ := hk1
    clear hk1
    go_enter Try.func24, Try.ntmps24
    go_wp2_with fail
    go_end0
    exact ⟨rfl, by rw [HE.out, HM.out]; exact HK.out, Kept.set w pb _ _⟩
end Go.Proofs.Ytkbanngbchhgaaa
