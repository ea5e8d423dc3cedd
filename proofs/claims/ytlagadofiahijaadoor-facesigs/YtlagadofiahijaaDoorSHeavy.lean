/- CONTRACT of carlingref03.Heavy. -/
import Derived.Test.YtlagadofiahijaaDoorSBase
import Derived.Test.YtlagadofiahijaaDoorSHeavyE
import Derived.Deep.RegionLaw
import Derived.Deep.RegionHeld3
namespace Go.Proofs.YtlagadofiahijaaDoor.Sh
open Go.ChangeShapes Go.WideShapes Go.ChangeAt Go.RowKit

/-- What Heavy reads of a statement that lies at a place. -/
abbrev StS (b q : Nat) (name : List UInt8) (k1 : Int) (n1 : Nat) (o1 : Int) (m1 : List UInt8) (s1 : Value) (k2 : Int) (n2 : Nat) (o2 : Int) (m2 : List UInt8) (s2 s3 s4 : Value) (w : World) : Prop :=
  w.cell? ⟨b, q + 1, none⟩ = some (.string (bs name)) ∧
  w.cell? ⟨b, q + 6, none⟩ = some (.int .i64 k1) ∧ w.cell? ⟨b, q + 6 + 1, none⟩ = some (.int .u32 n1) ∧ w.cell? ⟨b, q + 6 + 2, none⟩ = some (.int .i64 o1) ∧ w.cell? ⟨b, q + 6 + 3, none⟩ = some (.string (bs m1)) ∧ w.cell? ⟨b, q + 6 + 4, none⟩ = some s1 ∧
  w.cell? ⟨b, q + 11, none⟩ = some (.int .i64 k2) ∧ w.cell? ⟨b, q + 11 + 1, none⟩ = some (.int .u32 n2) ∧ w.cell? ⟨b, q + 11 + 2, none⟩ = some (.int .i64 o2) ∧ w.cell? ⟨b, q + 11 + 3, none⟩ = some (.string (bs m2)) ∧ w.cell? ⟨b, q + 11 + 4, none⟩ = some s2 ∧
  w.cell? ⟨b, q + 16, none⟩ = some s3 ∧ w.cell? ⟨b, q + 17, none⟩ = some s4
theorem StS.on {b q : Nat} {name : List UInt8} {k1 : Int} {n1 : Nat} {o1 : Int} {m1 : List UInt8} {s1 : Value} {k2 : Int} {n2 : Nat} {o2 : Int} {m2 : List UInt8} {s2 s3 s4 : Value} {w w' : World} (h : StS b q name k1 n1 o1 m1 s1 k2 n2 o2 m2 s2 s3 s4 w) (hb : Below w.heap.size w w') : StS b q name k1 n1 o1 m1 s1 k2 n2 o2 m2 s2 s3 s4 w' := by
  have hlt : b < w.heap.size := World.block_lt_of_cell? w _ h.1
  have ce : ∀ o, w'.cell? ⟨b, o, none⟩ = w.cell? ⟨b, o, none⟩ := fun o => World.cell?_of_block (hb.block b hlt)
  simp only [StS, ce]
  exact h
theorem st_at {w : World} {S : Nat → Prop} {a : Option Addr} {l : List Sm} (h : kSm.row w S a l) (k : Nat) (hk : k < l.length) :
    ∃ b o kind name sec len fr to k1 n1 o1 m1 l1 k2 n2 o2 m2 l2 body els a1 c1 a2 c2 a3 c3 a4 c4, a = some ⟨b, o, none⟩ ∧ l[k] = .mk kind name sec len fr to (.mk k1 n1 o1 m1 l1) (.mk k2 n2 o2 m2 l2) body els ∧
      StS b (o + k * 18) name k1 n1 o1 m1 (.slice a1 l1.length c1) k2 n2 o2 m2 (.slice a2 l2.length c2) (.slice a3 body.length c3) (.slice a4 els.length c4) w ∧ l1.length ≤ c1 ∧ l2.length ≤ c2 ∧ exR w S a1 l1 ∧ exR w S a2 l2 ∧ smR w S a3 body ∧ smR w S a4 els := by
  obtain ⟨b, o, cs, rfl, hS, hc, hC⟩ := kSm.row_at h k l[k] (List.getElem?_eq_getElem hk)
  obtain ⟨x, hx⟩ : ∃ x, l[k] = x := ⟨_, rfl⟩
  rw [hx] at hC ⊢
  obtain ⟨kind, name, sec, len, fr, to, ⟨k1, n1, o1, m1, l1⟩, ⟨k2, n2, o2, m2, l2⟩, body, els⟩ := x
  have hC' : smC w S cs _ := hC
  rw [smC_mk] at hC'
  obtain ⟨a1, c1, a2, c2, a3, c3, a4, c4, rfl, h1, h2, h3, h4, r1, r2, r3, r4⟩ := hC'
  exact ⟨b, o, kind, name, sec, len, fr, to, k1, n1, o1, m1, l1, k2, n2, o2, m2, l2, body, els, a1, c1, a2, c2, a3, c3, a4, c4, rfl, rfl, ⟨hc 1 _ rfl, hc 6 _ rfl, hc 7 _ rfl, hc 8 _ rfl, hc 9 _ rfl, hc 10 _ rfl, hc 11 _ rfl, hc 12 _ rfl, hc 13 _ rfl, hc 14 _ rfl, hc 15 _ rfl, hc 16 _ rfl, hc 17 _ rfl⟩, h1, h2, r1, r2, r3, r4⟩
theorem sm_drop_on {w w' : World} {S : Nat → Prop} {a : Option Addr} {l : List Sm} (h : smR w S a l) (hb : Below w.heap.size w w') : kSm.row w' S a l := kSm.row_mono (by decide) ((smR_row _ _ _ _).1 h) fun b hS hlt => ⟨hS, hb.block b hlt⟩
/-- Two expressions, laid in a new block. -/
theorem ex_two {w : World} {S : Nat → Prop} {k1 : Int} {n1 : Nat} {o1 : Int} {m1 : List UInt8} {l1 : List Ex} {k2 : Int} {n2 : Nat} {o2 : Int} {m2 : List UInt8} {l2 : List Ex} {a1 a2 : Option Addr} {c1 c2 : Nat} (t : TypeId) (h1 : l1.length ≤ c1) (h2 : l2.length ≤ c2) (r1 : exR w S a1 l1) (r2 : exR w S a2 l2) :
    kEx.row (w.alloc (.cells #[.int .i64 k1, .int .u32 n1, .int .i64 o1, .string (bs m1), .slice a1 l1.length c1, .int .i64 k2, .int .u32 n2, .int .i64 o2, .string (bs m2), .slice a2 l2.length c2] t)) (fun b => S b ∨ b = w.heap.size) (some ⟨w.heap.size, 0, none⟩) [.mk k1 n1 o1 m1 l1, .mk k2 n2 o2 m2 l2] :=
  kEx.lay_blk (cs := [.int .i64 k1, .int .u32 n1, .int .i64 o1, .string (bs m1), .slice a1 l1.length c1, .int .i64 k2, .int .u32 n2, .int .i64 o2, .string (bs m2), .slice a2 l2.length c2])
    ⟨[.int .i64 k1, .int .u32 n1, .int .i64 o1, .string (bs m1), .slice a1 l1.length c1], _, rfl, by show exC _ _ _ _; rw [exC]; exact ⟨a1, c1, rfl, h1, r1⟩, [.int .i64 k2, .int .u32 n2, .int .i64 o2, .string (bs m2), .slice a2 l2.length c2], [], by simp, by show exC _ _ _ _; rw [exC]; exact ⟨a2, c2, rfl, h2, r2⟩, rfl⟩
set_option maxRecDepth 100000 in
set_option maxHeartbeats 8000000 in
theorem heavy_any (f : Nat) : ∀ (l : List Sm) (S : Nat → Prop) (a : Option Addr) (c deep : Nat) (w : World), deep + f = 31 → kSm.row w S a l →
    Calls Tryd.prog 13 #[.slice a l.length c, .int .i64 3000, .int .i64 deep] w fun e w' => e = .returned (.int .i64 (smH f l 0 : Nat)) ∧ Below w.heap.size w w' := by
  induction f with
  | zero =>
    intro l S a c deep w hd hr
    have hd' : (30 : Int) < (deep : Int) := by omega
    go_enter Tryd.func13, Tryd.ntmps13
    go_wp2_with fail
    go_loopw [7, 8] (fun x i wr => x = .int .i64 0 ∧ i = .int .i64 0 ∧ wr = w) (fun _ _ _ => 0)
    case atStart => exact ⟨rfl, rfl, rfl⟩
    case round =>
      obtain ⟨rfl, rfl, hwr⟩ := hrel
      subst hwr
      cases l with
      | nil =>
        go_wp2_with fail
        go_ret
        exact ⟨by rw [smH_nil]; rfl, Below.refl _ _⟩
      | cons x l =>
        have h1 : (0 : Int) < ((x :: l).length : Int) := by simp
        go_wp2_with fail
        go_ret
        exact ⟨by rw [smH_zero _ _ _ (by omega)]; rfl, Below.refl _ _⟩
  | succ f ih =>
    intro l S a c deep w hd hr
    have hd' : ¬ (30 : Int) < (deep : Int) := by omega
    go_enter Tryd.func13, Tryd.ntmps13
    go_wp2_with fail
    go_loopw [7, 8] (fun x i wr => ∃ (k n : Nat), k ≤ l.length ∧ i = .int .i64 k ∧ x = .int .i64 n ∧ k ≤ n ∧ Below w.heap.size w wr ∧ smH (f + 1) l 0 = smH (f + 1) (l.drop k) n) (fun _ i _ => l.length - (intOf i).toNat)
    case atStart => exact ⟨0, 0, Nat.zero_le _, rfl, rfl, Nat.le_refl _, Below.refl _ _, rfl⟩
    case round =>
      obtain ⟨k, n, hk, rfl, rfl, hkn, hbl, hq⟩ := hrel
      have HQ : Hid (smH (f + 1) l 0 = smH (f + 1) (l.drop k) n) := hq
      have hr' : kSm.row wr S a l := kSm.row_mono (by decide) hr fun b hS hlt => ⟨hS, hbl.block b hlt⟩
      have HB := Lib.hid hbl
      clear hq hr hbl
      by_cases hlt : k < l.length
      · by_cases hn : n ≤ 3000
        · obtain ⟨b, o, kind, name, sec, len, fr, to, k1, n1, o1, m1, l1, k2, n2, o2, m2, l2, body, els, a1, c1, a2, c2, a3, c3, a4, c4, rfl, hx, hst, hc1, hc2, r1, r2, r3, r4⟩ := st_at hr' k hlt
          have HX : Hid (smH (f + 1) l 0 = smH (f + 1) (l.drop (k + 1)) (n + 1 + min name.length 100000 + exH (f + 1) [.mk k1 n1 o1 m1 l1, .mk k2 n2 o2 m2 l2] 0 + smH f body 0 + smH f els 0)) := by show _ = _; rw [HQ.out, drop_more hlt, hx, smH_more _ _ _ _ _ _ _ _ _ _ _ _ _ hn]
          have hE : Hid (Calls Tryd.prog 14 #[.slice (some ⟨wr.heap.size, 0, none⟩) 2 2, .int .i64 3000, .int .i64 deep] (wr.alloc (.cells #[.int .i64 k1, .int .u32 n1, .int .i64 o1, .string (bs m1), .slice a1 l1.length c1, .int .i64 k2, .int .u32 n2, .int .i64 o2, .string (bs m2), .slice a2 l2.length c2] 49)).drew fun e w' => e = .returned (.int .i64 (exH (f + 1) [.mk k1 n1 o1 m1 l1, .mk k2 n2 o2 m2 l2] 0 : Nat)) ∧ Below wr.heap.size wr w') :=
            (exHeavy_any (f + 1) [.mk k1 n1 o1 m1 l1, .mk k2 n2 o2 m2 l2] (fun b => S b ∨ b = wr.heap.size) (some ⟨wr.heap.size, 0, none⟩) 2 deep (wr.alloc (.cells #[.int .i64 k1, .int .u32 n1, .int .i64 o1, .string (bs m1), .slice a1 l1.length c1, .int .i64 k2, .int .u32 n2, .int .i64 o2, .string (bs m2), .slice a2 l2.length c2] 49)).drew hd (kEx.row_mono (T := fun b => S b ∨ b = wr.heap.size) (by decide) (ex_two 49 hc1 hc2 r1 r2) fun i hi _ => ⟨hi, rfl⟩)).mono fun e w' ⟨h1, d, h2⟩ => ⟨h1, by rw [h2]; exact bl_then (bl_then (bl_alloc (Below.refl _ _) _) (drew_bl _)) ⟨rfl, rfl, rfl, Nat.le_refl _, fun _ _ => rfl⟩⟩
          have hH3 : ∀ w1, Below wr.heap.size wr w1 → Calls Tryd.prog 13 #[.slice a3 body.length c3, .int .i64 3000, .int .i64 ((deep : Int) + 1)] w1 fun e w' => e = .returned (.int .i64 (smH f body 0 : Nat)) ∧ Below w1.heap.size w1 w' := fun w1 hb => ih body S a3 c3 (deep + 1) w1 (by omega) (sm_drop_on r3 hb)
          have hH4 : ∀ w1, Below wr.heap.size wr w1 → Calls Tryd.prog 13 #[.slice a4 els.length c4, .int .i64 3000, .int .i64 ((deep : Int) + 1)] w1 fun e w' => e = .returned (.int .i64 (smH f els 0 : Nat)) ∧ Below w1.heap.size w1 w' := fun w1 hb => ih els S a4 c4 (deep + 1) w1 (by omega) (sm_drop_on r4 hb)
          have hwrap : IntKind.i64.wrap ((deep : Int) + 1) = (deep : Int) + 1 := Go.IntWalk.i64_in _ (by omega)
          rw [← hwrap] at hH3 hH4
          have H3 := Lib.hid hH3
          have H4 := Lib.hid hH4
          clear hwrap
          have hbs : (bs name).size = name.length := bs_size name
          have b0 := exH_le (f + 1) [.mk k1 n1 o1 m1 l1, .mk k2 n2 o2 m2 l2] 0
          have b1 := smH_le f body 0 (by omega)
          have b2 := smH_le f els 0 (by omega)
          have hp : 2 ^ (f + 1) ≤ 2 ^ 31 := Nat.pow_le_pow_right (by omega) (by omega)
          generalize exH (f + 1) [.mk k1 n1 o1 m1 l1, .mk k2 n2 o2 m2 l2] 0 = E at hE HX b0
          generalize smH f body 0 = G at H3 HX b1
          generalize smH f els 0 = K at H4 HX b2
          have e0 : E ≤ 4000000 := by omega
          have e1 : G ≤ 8589934592000000 := by omega
          have e2 : K ≤ 8589934592000000 := by omega
          have V : Hid (IntKind.i64.wrap ((n : Int) + 1) = (n : Int) + 1 ∧ IntKind.i64.wrap ((n : Int) + 1 + min (name.length : Int) 100000) = (n : Int) + 1 + min (name.length : Int) 100000 ∧ IntKind.i64.wrap ((n : Int) + 1 + min (name.length : Int) 100000 + E) = (n : Int) + 1 + min (name.length : Int) 100000 + E ∧ IntKind.i64.wrap ((n : Int) + 1 + min (name.length : Int) 100000 + E + G) = (n : Int) + 1 + min (name.length : Int) 100000 + E + G ∧ IntKind.i64.wrap ((n : Int) + 1 + min (name.length : Int) 100000 + E + G + K) = (n : Int) + 1 + min (name.length : Int) 100000 + E + G + K) := ⟨Go.IntWalk.i64_in _ (by omega), Go.IntWalk.i64_in _ (by omega), Go.IntWalk.i64_in _ (by omega), Go.IntWalk.i64_in _ (by omega), Go.IntWalk.i64_in _ (by omega)⟩
          have hk0 : (0 : Int) ≤ (k : Int) := by omega
          have hk1 : (k : Int) < (l.length : Int) := by omega
          have hn' : (n : Int) ≤ 3000 := by omega
          have lt0 : b < wr.heap.size := World.block_lt_of_cell? wr _ hst.1
          clear ih hx r1 r2 r3 r4 hc1 hc2 hr' b0 b1 b2 hp HQ hH3 hH4
          have B1 : Below wr.heap.size wr wr.drew := drew_bl wr
          have HST := Lib.hid hst
          have S1 := HST.out.on B1
          have S1a := fun o => HST.out.on (bl_then (bl_alloc (Below.refl _ wr) o) (drew_bl _))
          clear hst
          go_wp2_with fail
          go_region_held3 (fun w' => StS b (o + k * 18) name k1 n1 o1 m1 (.slice a1 l1.length c1) k2 n2 o2 m2 (.slice a2 l2.length c2) (.slice a3 body.length c3) (.slice a4 els.length c4) w')
            (first | with_reducible exact S4 | with_reducible exact S3 | with_reducible exact S2 | with_reducible exact S1a _ | with_reducible exact S1)
            (first | (go_at_call 14; refine hE.out.mono ?_; rintro e w2 ⟨rfl, B2⟩; have S2 := HST.out.on B2; clear S1 S1a B1) | (go_at_call_of 13 (Value.slice a3 body.length c3); refine (H3.out _ B2).mono ?_; rintro e w3 ⟨rfl, hb3⟩; have B3 := bl_then B2 hb3; have S3 := HST.out.on B3; clear S2 B2 hb3) | (go_at_call_of 13 (Value.slice a4 els.length c4); refine (H4.out _ B3).mono ?_; rintro e w4 ⟨rfl, hb4⟩; have B4 := bl_then B3 hb4; have S4 := HST.out.on B4; clear S3 B3 hb4))
          all_goals
            obtain ⟨v1, v2, v3, v4, v5⟩ := V.out
            simp only [v1, v2, v3, v4, v5]
            clear v1 v2 v3 v4 v5
            go_wp2_with fail
            go_roundw
            case rel => exact ⟨k + 1, n + 1 + min name.length 100000 + E + G + K, by omega, by go_num, by simp; omega, by omega, bl_then HB.out B4, HX.out⟩
            case measure => simp [intOf]; omega
        · have hn' : ¬ (n : Int) ≤ 3000 := by omega
          have hn2 : decide ((n : Int) ≤ 3000) = false := by simp; omega
          go_wp2_with fail
          go_ret
          exact ⟨by rw [HQ.out, smH_stop _ _ _ hn]; rfl, HB.out⟩
      · have hd0 : l.drop k = [] := List.drop_of_length_le (by omega)
        go_wp2_with fail
        go_ret
        exact ⟨by rw [HQ.out, hd0, smH_nil]; rfl, HB.out⟩
end Go.Proofs.YtlagadofiahijaaDoor.Sh
