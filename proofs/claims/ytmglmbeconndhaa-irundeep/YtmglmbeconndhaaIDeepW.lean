/- THE WALK of IrunDeep. -/
import Derived.Test.YtmglmbeconndhaaIAwake
import Derived.Test.YtmglmbeconndhaaIDeepM
import Derived.Test.YtmglmbeconndhaaIApp2
namespace Go.Proofs.Ytmglmbeconndhaa
open Go.ChangeShapes Go.WideShapes Go.ChangeAt Go.RowKit
/-- The first function's instructions; another one's; the functions' cells. -/
abbrev dpI0 (k : Nat) : Obj := .cells #[.int .i64 1, .int .i64 0, .int .i64 0, .int .i64 0, .int .i64 0, .int .i64 0, .int .u32 (k : Int), .string ⟨#[]⟩, .slice none 0 0, .int .i64 10, .int .i64 0, .int .i64 0, .int .i64 0, .int .i64 0, .int .i64 0, .int .u32 0, .string ⟨#[]⟩, .slice none 0 0] 45
abbrev dpIs (p : List UInt8) : Obj := .cells #[.int .i64 7, .int .i64 0, .int .i64 0, .int .i64 0, .int .i64 0, .int .i64 0, .int .u32 0, .string (bs p), .slice none 0 0, .int .i64 10, .int .i64 0, .int .i64 0, .int .i64 0, .int .i64 0, .int .i64 0, .int .u32 0, .string ⟨#[]⟩, .slice none 0 0] 45
abbrev dpO0 (q : Nat) : Obj := .cells #[.string ⟨#[97, 46, 102]⟩, .slice none 0 0, .int .i64 1, .int .i64 0, .slice (some ⟨q, 0, none⟩) 2 2] 25
abbrev dpCs (p : List UInt8) (q : Nat) : List Value := [.string (bs p), .slice none 0 0, .int .i64 1, .int .i64 0, .slice (some ⟨q, 0, none⟩) 2 2]
theorem dpI0_row {w : World} {S : Nat → Prop} {q k : Nat} (hS : S q) (hk : k < 4294967296) (h : w.heap[q]? = some (dpI0 k)) : kIr.row w S (some ⟨q, 0, none⟩) (dpC k 0).l :=
  kIr.lay_row (S := S) (fun _ h => h) q hS 0 (ir_lay (x := ⟨1, 0, 0, 0, 0, 0, k, [], []⟩) rfl hk (ir_lay (x := ⟨10, 0, 0, 0, 0, 0, 0, [], []⟩) rfl (by decide) (ys := []) rfl)) (cells_of h)
theorem dpIs_row {w : World} {S : Nat → Prop} {q k i : Nat} (hS : S q) (h : w.heap[q]? = some (dpIs (dpN i))) : kIr.row w S (some ⟨q, 0, none⟩) (dpC k (i + 1)).l :=
  kIr.lay_row (S := S) (fun _ h => h) q hS 0 (ir_lay (x := ⟨7, 0, 0, 0, 0, 0, 0, dpN i, []⟩) rfl (by simp) (ir_lay (x := ⟨10, 0, 0, 0, 0, 0, 0, [], []⟩) rfl (by decide) (ys := []) rfl)) (cells_of h)
theorem dpC0_in {w : World} {S : Nat → Prop} {q k : Nat} (hS : S q) (hk : k < 4294967296) (h : w.heap[q]? = some (dpI0 k)) : kCo.C w S (dpCs (dpN 0) q) (dpC k 0) := ⟨none, 0, some ⟨q, 0, none⟩, 2, rfl, ⟨Nat.le_refl _, Nat.le_refl _, trivial, dpI0_row hS hk h⟩⟩
theorem dpCs_in {w : World} {S : Nat → Prop} {q k i : Nat} (hS : S q) (h : w.heap[q]? = some (dpIs (dpN i))) : kCo.C w S (dpCs (dpN (i + 1)) q) (dpC k (i + 1)) := ⟨none, 0, some ⟨q, 0, none⟩, 2, rfl, ⟨Nat.le_refl _, Nat.le_refl _, trivial, dpIs_row hS h⟩⟩
theorem dp_own0 (w : World) (k : Nat) (hk : k < 4294967296) : kCo.own 25 ((w.alloc (dpI0 k)).alloc (dpO0 w.heap.size)) (Own w.heap.size (.slice (some ⟨w.heap.size + 1, 0, none⟩) 1 1)) w.heap.size (.slice (some ⟨w.heap.size + 1, 0, none⟩) 1 1) (dpL k 0) := by
  have h1 : ((w.alloc (dpI0 k)).alloc (dpO0 w.heap.size)).heap[w.heap.size]? = some (dpI0 k) := by rw [heap_alloc_old _ _ (by simp)]; exact heap_alloc_new w _
  have h2 : ((w.alloc (dpI0 k)).alloc (dpO0 w.heap.size)).heap[w.heap.size + 1]? = some (dpO0 w.heap.size) := by
    have := heap_alloc_new (w.alloc (dpI0 k)) (dpO0 w.heap.size)
    simpa using this
  refine ⟨dpCs afN w.heap.size, ⟨rfl, .inr ⟨w.heap.size + 1, 1, _, rfl, by omega, h2, Nat.le_refl _, by decide, rfl, rfl⟩⟩, ⟨dpCs afN w.heap.size, [], rfl, ?_, rfl⟩⟩
  exact dpC0_in ⟨Nat.le_refl _, by simp [Value.ownBlock]⟩ hk h1
theorem src_cells {w : World} {b : Nat} {cs : List Value} {n : Nat} {t e tx : TypeId} {f : Nat × Nat} (hk : Try.prog.underlying tx = some (.slice e)) (h : w.heap[b]? = some (.cells cs.toArray t f)) (hn : cs.length = n) (ho : ∀ u ∈ cs, u.oneCell' = true) : Src Try.prog n tx (.slice (some ⟨b, 0, none⟩) 1 1) 1 cs w := by
  refine Src.ofSlice _ hk ⟨b, 0, none⟩ 1 1 cs (by omega) (fun j z hj => ?_) ho
  have e : (⟨b, 0, none⟩ : Addr).add j = ⟨b, 0 + j, none⟩ := by unfold Addr.add; split <;> simp_all
  rw [e]
  exact cells_of h j z hj
/-- The world ahead of an append. -/
abbrev dpW (wr : World) (j : Nat) : World := ((wr.alloc (.cells #[.int .u8 (97 + (j : Int) / 10), .int .u8 (97 + (j : Int) % 10)] 5)).alloc (dpIs (dpN j))).alloc (.cells #[.string (bs (dpN (j + 1))), .slice none 0 0, .int .i64 1, .int .i64 0, .slice (some ⟨wr.heap.size + 1, 0, none⟩) 2 2] 25)
theorem dpW_facts (wr : World) (j : Nat) : (dpW wr j).heap[wr.heap.size + 1]? = some (dpIs (dpN j)) ∧ (dpW wr j).heap[wr.heap.size + 1 + 1]? = some (.cells (dpCs (dpN (j + 1)) (wr.heap.size + 1)).toArray 25) ∧ Below wr.heap.size wr (dpW wr j) := by
  refine ⟨?_, ?_, bl_alloc (bl_alloc (bl_alloc (Below.refl _ _) _) _) _⟩
  · rw [heap_alloc_old _ _ (by simp)]
    have := heap_alloc_new (wr.alloc (.cells #[.int .u8 (97 + (j : Int) / 10), .int .u8 (97 + (j : Int) % 10)] 5)) (dpIs (dpN j))
    simpa using this
  · have := heap_alloc_new ((wr.alloc (.cells #[.int .u8 (97 + (j : Int) / 10), .int .u8 (97 + (j : Int) % 10)] 5)).alloc (dpIs (dpN j))) (.cells (dpCs (dpN (j + 1)) (wr.heap.size + 1)).toArray 25)
    simpa using this
theorem dp_next {wr w3 : World} {base j k : Nat} {v y' : Value} {xs : List Value} (hown : wr.ownsRow base 25 5 v (j + 1) xs) (hlay : kCo.lay wr (Own base v) xs (dpL k j)) (hbase : base ≤ wr.heap.size)
    (hown3 : w3.ownsRow base 25 5 y' (j + 1 + 1) (xs ++ dpCs (dpN (j + 1)) (wr.heap.size + 1))) (hgrow : (dpW wr j).grownBy w3 v.ownBlock) (hat : y'.ownBlock = v.ownBlock ∨ y'.ownBlock = some (dpW wr j).heap.size) :
    kCo.own 25 w3 (Own base y') base y' (dpL k (j + 1)) ∧ Kept (fun i => v.ownBlock = some i) (dpW wr j) w3 := by
  obtain ⟨h1, h2, h3⟩ := dpW_facts wr j
  have hlen : (dpL k j).length = j + 1 := dpL_len k j
  refine ⟨?_, Kept.of_grown hgrow⟩
  rw [dpL]
  refine Kind.own_append (K := kCo) (w := dpW wr j) (w0 := dpW wr j) (xs := xs) (cs := dpCs (dpN (j + 1)) (wr.heap.size + 1)) (v := v) (n := j + 1 + 1) (kCo.lay_mono hlay fun b hb hlt => ⟨hb, h3.block b hlt⟩) (dpCs_in ⟨by omega, own_lt hown _ (by omega)⟩ h1) (fun _ _ => rfl) (Nat.le_refl _) hown3 (by rw [hlen]) hgrow fun b hb => ?_
  rcases hat with e | e
  · left; rw [← e]; exact hb
  · right; rw [e] at hb; have := Option.some.inj hb; omega
theorem conv_two (w : World) (j : Nat) (hj : j < 40) : (convert 51 9 (.slice (some ⟨w.heap.size, 0, none⟩) 2 2)).run Try.prog (w.alloc (.cells #[.int .u8 (97 + (j : Int) / 10), .int .u8 (97 + (j : Int) % 10)] 5)) = .ok (.string (bs [UInt8.ofNat (97 + j / 10), UInt8.ofNat (97 + j % 10)])) (w.alloc (.cells #[.int .u8 (97 + (j : Int) / 10), .int .u8 (97 + (j : Int) % 10)] 5)) := by
  refine run_convert_bytes_back (P := Try.prog) _ 51 9 5 ⟨w.heap.size, 0, none⟩ 2 [UInt8.ofNat (97 + j / 10), UInt8.ofNat (97 + j % 10)] Try.underlying51 Try.underlying5 Try.underlying9 fun i hi => ?_
  have hn := heap_alloc_new w (.cells #[.int .u8 (97 + (j : Int) / 10), .int .u8 (97 + (j : Int) % 10)] 5)
  have h1 : ((UInt8.ofNat (97 + j / 10)).toNat : Int) = 97 + (j : Int) / 10 := by
    rw [UInt8.toNat_ofNat']; omega
  have h2 : ((UInt8.ofNat (97 + j % 10)).toNat : Int) = 97 + (j : Int) % 10 := by
    rw [UInt8.toNat_ofNat']; omega
  have e : ∀ k, (⟨w.heap.size, 0, none⟩ : Addr).add k = ⟨w.heap.size, 0 + k, none⟩ := fun k => by unfold Addr.add; split <;> simp_all
  rw [e]
  rcases i with _ | _ | i
  · simp only [World.cell?, hn]; show some (Value.int .u8 (97 + (j : Int) / 10)) = some (.int .u8 (((UInt8.ofNat (97 + j / 10)).toNat : Nat) : Int)); rw [h1]
  · simp only [World.cell?, hn]; show some (Value.int .u8 (97 + (j : Int) % 10)) = some (.int .u8 (((UInt8.ofNat (97 + j % 10)).toNat : Nat) : Int)); rw [h2]
  · simp at hi; omega
set_option maxRecDepth 100000 in
set_option maxHeartbeats 4000000 in
theorem deep_walk {B : Nat} (n : Int) (k : Nat) (hk : k < 4294967296) (w : World) (hg : Glob B w) :
    Calls Try.prog 9 #[.int .i64 n, .int .u32 (k : Int)] w fun e w' => e = .returned (.bool true) ∧ Below w.heap.size w w' := by
  by_cases h0 : n < 0
  · go_enter Try.func9, Try.ntmps9
    go_upto_region 2 with (first | (go_at_call 10; refine (awake_any w hg).mono ?_; rintro e w0 ⟨rfl, hb0⟩))
    go_wp2
    go_ret
    exact ⟨rfl, hb0⟩
  by_cases h40 : 40 < n
  · go_enter Try.func9, Try.ntmps9
    go_upto_region 2 with (first | (go_at_call 10; refine (awake_any w hg).mono ?_; rintro e w0 ⟨rfl, hb0⟩))
    go_wp2
    go_ret
    exact ⟨rfl, hb0⟩
  obtain ⟨N, rfl⟩ : ∃ N : Nat, n = N := ⟨n.toNat, by omega⟩
  have hN : N ≤ 40 := by omega
  go_enter Try.func9, Try.ntmps9
  go_upto_region 2 with (first | (go_at_call 10; refine (awake_any w hg).mono ?_; rintro e w0 ⟨rfl, hb0⟩))
  go_upto_region 7 with fail
  have HO0 : Hid _ := dp_own0 w0 k hk
  have HB0 : Hid _ := bl_alloc (bl_alloc (Below.refl w0.heap.size w0) (dpI0 k)) (dpO0 w0.heap.size)
  generalize World.alloc (World.alloc w0 _) _ = w1 at HO0 HB0 ⊢
  go_loopw [6, 7, 8] (fun nm v i wr => ∃ j : Nat, j ≤ N ∧ i = .int .i64 j ∧ nm = .string (bs (dpN j)) ∧ kCo.own 25 wr (Own w0.heap.size v) w0.heap.size v (dpL k j) ∧ Below w0.heap.size w0 wr) (fun _ _ i _ => N - (intOf i).toNat)
  case atStart => exact ⟨0, Nat.zero_le _, rfl, rfl, HO0.out, HB0.out⟩
  case round =>
    rename_i u6 u7 _
    obtain ⟨j, hj, rfl, rfl, hown, hbl⟩ := hrel
    have HO : Hid _ := hown
    have HB : Hid (Below w0.heap.size w0 wr) := hbl
    clear hown hbl HO0 HB0
    by_cases hlt : j < N
    · have hjl : (j : Int) < (N : Int) := by omega
      have hcv : (convert 51 9 (.slice (some ⟨wr.heap.size, 0, none⟩) 2 2)).run Try.prog (wr.alloc (.cells #[.int .u8 (97 + (j : Int) / 10), .int .u8 (97 + (j : Int) % 10)] 5)) = .ok (.string (bs [UInt8.ofNat (97 + j / 10), UInt8.ofNat (97 + j % 10)])) (wr.alloc (.cells #[.int .u8 (97 + (j : Int) / 10), .int .u8 (97 + (j : Int) % 10)] 5)) := conv_two wr j (by omega)
      have hcat : (⟨#[98, 46, 102]⟩ : ByteArray) ++ bs [UInt8.ofNat (97 + j / 10), UInt8.ofNat (97 + j % 10)] = bs (dpN (j + 1)) := by
        apply ByteArray.ext
        simp [bs, dpN, ByteArray.data_append]
      have hsz : (bs [UInt8.ofNat (97 + j / 10), UInt8.ofNat (97 + j % 10)]).size = 2 := rfl
      generalize bs [UInt8.ofNat (97 + j / 10), UInt8.ofNat (97 + j % 10)] = s2 at hcv hcat hsz
      obtain ⟨xs, hox, hlay⟩ := HO.out
      rw [dpL_len k j] at hox
      have hz0 := HB.out.size
      obtain ⟨g1, g2, g3⟩ := dpW_facts wr j
      have hownC : (dpW wr j).ownsRow w0.heap.size 25 5 u7 (j + 1) xs := own_kept hox (Below.kept g3 (fun _ => False)) (fun _ _ e => e)
      have hsrcC := src_cells (n := 5) Try.underlying28 g2 rfl (by intro u hu; simp only [dpCs, List.mem_cons, List.not_mem_nil, or_false] at hu; rcases hu with rfl | rfl | rfl | rfl | rfl <;> rfl)
      have hbC : w0.heap.size ≤ (dpW wr j).heap.size := Nat.le_trans hz0 g3.size
      clear g1 g2
      go_wp2_with (first | (at_builtin; refine wpList_append_big co_info rfl Try.underlying28 (by decide) _ rfl _ _ rfl w0.heap.size u7 (j + 1) xs rfl hownC _ 1 (dpCs (dpN (j + 1)) (wr.heap.size + 1)) rfl hsrcC (by omega) hbC ?_; intro y c2 w3 hown3 hgrow hat; refine Hid.out ?_) | go_in)
      refine Lib.hid ?_
      obtain ⟨ho3, hk3⟩ := dp_next hox hlay hz0 hown3 hgrow hat
      have HO3 : Hid _ := ho3
      have HB3 : Hid (Below w0.heap.size w0 w3) := by
        refine Kept.to_below ((Below.kept (bl_then HB.out g3) (fun i => w0.heap.size ≤ i)).trans (hk3.mono fun i _ e => ?_)) fun i hi => hi
        exact (World.ownsRow.lt hox i e).1
      clear hox hlay hz0 g3 hownC hsrcC hbC hown3 hgrow hat ho3 hk3 hcv hcat hsz
      go_wp2_with fail
      go_roundw
      case rel => exact ⟨j + 1, by omega, by go_num, rfl, HO3.out, HB3.out⟩
      case measure => simp [intOf]; omega
    · obtain rfl : j = N := by omega
      obtain ⟨a, cp, hv, hrow, hcp⟩ := Kind.own_rd (K := kCo) (T := fun _ => True) HO.out (fun _ _ => trivial) (fun _ _ => trivial)
      subst hv
      have hgr : Glob B wr := (hg.below hb0).below HB.out
      have hok : ∀ c ∈ dpL k j, CoOk c := fun c hc => by
        obtain ⟨i, hi, rfl⟩ := dpL_mem k j c hc
        cases i with
        | zero =>
          refine ⟨by simp [dpC], fun y hy => ?_⟩
          simp only [dpC, List.mem_cons, List.not_mem_nil, or_false] at hy
          rcases hy with rfl | rfl <;> simp
        | succ i =>
          refine ⟨by simp [dpC, dpN], fun y hy => ?_⟩
          simp only [dpC, List.mem_cons, List.not_mem_nil, or_false] at hy
          rcases hy with rfl | rfl
          · cases i <;> simp [dpN]
          · simp
      have hnl : (dpN j).length ≤ 1000000000 := by cases j <;> simp [dpN]
      have hr := run_any (S' := fun _ => True) a (dpL k j) cp (dpN j) none [] 0 wr hrow hok (by rw [dpL_len]; omega) hgr hnl trivial (Nat.le_refl _)
      rw [run_dp k j hN, dpL_len] at hr
      have HBw : Hid _ := bl_then hb0 HB.out
      rw [dpL_len]
      clear hrow hok hcp hgr HO HB
      by_cases h32 : 32 < j
      · rw [if_pos h32] at hr
        have h32' : (32 : Int) < (j : Int) := by omega
        go_upto_region 13 with (first | (go_at_call 14; refine hr.mono ?_; rintro e w4 ⟨ya, yc, ba, bc, rfl, _, _, _, _, hb4⟩))
        have HB4 : Hid _ := bl_alloc (bl_then HBw.out hb4) (.cells #[.int .u32 0, .slice ya 0 yc] 36)
        clear hr hb4
        go_wp2
        go_ret
        exact ⟨rfl, HB4.out⟩
      · rw [if_neg h32] at hr
        have h32' : ¬ (32 : Int) < (j : Int) := by omega
        go_upto_region 13 with (first | (go_at_call 14; refine hr.mono ?_; rintro e w4 ⟨ya, yc, ba, bc, rfl, _, _, _, _, hb4⟩))
        have HB4 : Hid _ := bl_alloc (bl_then HBw.out hb4) (.cells #[.int .u32 (k : Int), .slice ya 0 yc] 36)
        clear hr hb4
        go_wp2
        go_ret
        exact ⟨rfl, HB4.out⟩
end Go.Proofs.Ytmglmbeconndhaa
