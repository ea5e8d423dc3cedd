/- THE WALK of IrunOthers. -/
import Derived.Test.YtmglmbeconndhaaIMoreW
import Derived.Test.YtmglmbeconndhaaIOthM
import Derived.Test.YtmglmbeconndhaaIDeepW
namespace Go.Proofs.Ytmglmbeconndhaa
open Go.ChangeShapes Go.WideShapes Go.ChangeAt Go.RowKit

abbrev zzI : Obj := .cells #[.int .i64 10, .int .i64 0, .int .i64 0, .int .i64 0, .int .i64 0, .int .i64 0, .int .u32 0, .string ⟨#[]⟩, .slice none 0 0] 45
abbrev zzO (q : Nat) : Obj := .cells #[.string ⟨#[122, 122, 46, 113]⟩, .slice none 0 0, .int .i64 1, .int .i64 0, .slice (some ⟨q, 0, none⟩) 1 1] 25
abbrev zzL (q : Nat) : List Value := [.string ⟨#[122, 122, 46, 113]⟩, .slice none 0 0, .int .i64 1, .int .i64 0, .slice (some ⟨q, 0, none⟩) 1 1]
theorem zz_in {w : World} {S : Nat → Prop} {q : Nat} (hS : S q) (h : w.heap[q]? = some zzI) : kCo.C w S (zzL q) zzC :=
  ⟨none, 0, some ⟨q, 0, none⟩, 1, rfl, ⟨Nat.le_refl _, Nat.le_refl _, trivial, kIr.lay_row (S := S) (fun _ h => h) q hS 0 (ir_lay (x := ⟨10, 0, 0, 0, 0, 0, 0, [], []⟩) rfl (by decide) (ys := []) rfl) (cells_of h)⟩⟩
/-- The world behind the literals. -/
structure ZzL (w w1 : World) : Prop where
  irs : w1.heap[w.heap.size]? = some zzI
  co : w1.heap[w.heap.size + 1]? = some (zzO w.heap.size)
  below : Below w.heap.size w w1
  size : w1.heap.size = w.heap.size + 2
theorem zzW (w : World) : ZzL w ((w.alloc zzI).alloc (zzO w.heap.size)) := by
  refine ⟨?_, ?_, bl_alloc (bl_alloc (Below.refl _ _) _) _, by simp⟩
  · rw [heap_alloc_old _ _ (by simp)]; exact heap_alloc_new w _
  · have := heap_alloc_new (w.alloc zzI) (zzO w.heap.size)
    simpa using this
theorem co_bl {w w' : World} {a : Option Addr} {l : List Co} (h : kCo.row w (fun _ => True) a l) (hb : Below w.heap.size w w') : kCo.row w' (fun _ => True) a l := kCo.row_mono (by decide) h fun b _ hlt => ⟨trivial, hb.block b hlt⟩
/-- None of the first k functions bears the name, or calls it. -/
def NoZz (l : List Co) (k : Nat) : Prop := ∀ c ∈ l.take k, c.name ≠ zzN ∧ ∀ y ∈ c.l, y.name ≠ zzN
theorem NoZz.next {l : List Co} {k : Nat} (hk : k < l.length) (h : NoZz l k) (hn : l[k].name ≠ zzN) (hy : ∀ y ∈ l[k].l, y.name ≠ zzN) : NoZz l (k + 1) := fun c hc => by
  rw [List.take_succ_eq_append_getElem hk, List.mem_append] at hc
  rcases hc with hc | hc
  · exact h c hc
  · rw [List.mem_singleton.1 hc]; exact ⟨hn, hy⟩
set_option maxRecDepth 100000 in
set_option maxHeartbeats 4000000 in
theorem others_walk {B : Nat} (a : Option Addr) (l : List Co) (cp : Nat) (aa : Option Addr) (ar : List Nat) (ac : Nat) (w : World) (hg : Glob B w) (hrow : kCo.row w (fun _ => True) a l) (har : kWd.row w (fun _ => True) aa ar) (hac : ar.length ≤ ac) :
    Calls Try.prog 6 #[.slice a l.length cp, .slice aa ar.length ac] w fun e w' => e = .returned (.bool true) ∧ Below w.heap.size w w' := by
  go_enter Try.func6, Try.ntmps6
  go_upto_region 2 with (first | (go_at_call 10; refine (awake_any _ hg).mono ?_; rintro e w2 ⟨rfl, hb2⟩))
  have hli := light_any _ _ l cp (co_bl hrow hb2)
  rcases nL : lightB l with _ | _ <;> rw [nL] at hli
  · go_upto_region 3 with (first | (go_at_call 11; refine hli.mono ?_; rintro e w3 ⟨rfl, hb3⟩))
    have hB := Lib.hid (bl_then hb2 hb3)
    clear hb2 hb3 hli
    go_wp2
    go_ret
    exact ⟨rfl, hB.out⟩
  obtain ⟨hlen, hok⟩ := light_all nL
  go_upto_region 3 with (first | (go_at_call 11; refine hli.mono ?_; rintro e w3 ⟨rfl, hb3⟩))
  have HB : Hid _ := bl_then hb2 hb3
  clear hb2 hb3 hli
  by_cases h0 : l.length = 0
  · have h0' : ((l.length : Nat) : Int) = 0 := by omega
    go_wp2
    go_ret
    exact ⟨rfl, HB.out⟩
  have h0' : (((l.length : Nat) : Int) == 0) = false := by rw [beq_eq_false_iff_ne]; omega
  by_cases h15 : 15 < l.length
  · have h15' : (15 : Int) < (l.length : Int) := by omega
    go_wp2
    go_ret
    exact ⟨rfl, HB.out⟩
  have h15' : ¬ (15 : Int) < (l.length : Int) := by omega
  by_cases h200 : 200 < ar.length
  · have h200' : (200 : Int) < (ar.length : Int) := by omega
    go_wp2
    go_ret
    exact ⟨rfl, HB.out⟩
  have h200' : ¬ (200 : Int) < (ar.length : Int) := by omega
  have hrow3 := co_bl hrow HB.out
  go_upto_region 6 with fail
  go_loopw [7] (fun i wr => ∃ k : Nat, k ≤ l.length ∧ i = .int .i64 k ∧ NoZz l k ∧ wr = w3) (fun i _ => l.length - (intOf i).toNat)
  case atStart => exact ⟨0, Nat.zero_le _, rfl, (fun c hc => by simp at hc), rfl⟩
  case round =>
    obtain ⟨k, hk, rfl, hq, rfl⟩ := hrel
    have HQ : Hid (NoZz l k) := hq
    clear hq
    by_cases hlt : k < l.length
    · obtain ⟨b, o, pa, pc, la, lc, rfl, _, hb, hat, hin⟩ := co_at hrow3 k hlt
      obtain ⟨e0, e1, e2, e3, e4⟩ := hat
      have HX : Hid (l[k].name ≠ zzN → (∀ y ∈ l[k].l, y.name ≠ zzN) → NoZz l (k + 1)) := fun h1 h2 => HQ.out.next hlt h1 h2
      have hll : l[k].l.length ≤ 10000000 := by
        have h := (List.all_eq_true.1 (show l.all coLight = true by simp only [lightB, Bool.and_eq_true] at nL; exact nL.2)) _ (List.getElem_mem hlt)
        simp only [coLight, coLight0, Bool.and_eq_true, decide_eq_true_eq] at h
        omega
      generalize l[k] = x at e0 e1 e2 e3 e4 hin HX hll
      have hk0 : (0 : Int) ≤ (k : Int) := by omega
      have hk1 : (k : Int) < (l.length : Int) := by omega
      have htl := bs_tl x.name
      by_cases hz : x.name = zzN
      · have hz' : (bs x.name).toList = [122, 122, 46, 113] := by rw [htl, hz]
        have hz2 : ((bs x.name).toList == [122, 122, 46, 113]) = true := by rw [hz']; rfl
        clear htl hz
        go_wp2_with fail
        go_ret
        exact ⟨rfl, HB.out⟩
      have hz' : ((bs x.name).toList == [122, 122, 46, 113]) = false := by rw [htl]; simpa using hz
      have hz'' : ¬ (bs x.name).toList = [122, 122, 46, 113] := by rw [htl]; exact hz
      clear htl
      go_wp2_with fail
      go_loop [8] (fun j => ∃ m : Nat, m ≤ x.l.length ∧ j = .int .i64 m ∧ ∀ y ∈ x.l.take m, y.name ≠ zzN) (fun j => x.l.length - (intOf j).toNat)
      case atStart => exact ⟨0, Nat.zero_le _, rfl, fun c hc => by simp at hc⟩
      case round =>
        obtain ⟨m, hm, rfl, hq⟩ := hrel
        have HQ2 : Hid (∀ y ∈ x.l.take m, y.name ≠ zzN) := hq
        clear hq
        by_cases hmt : m < x.l.length
        · obtain ⟨b2, o2, ga, gc, rfl, _, hb2, hia, _, _, _⟩ := ir_at hin.l m hmt
          obtain ⟨i0, i1, i2, i3, i4, i5, i6, i7, i8⟩ := hia
          have HN : Hid (x.l[m].name ≠ zzN → ∀ y ∈ x.l.take (m + 1), y.name ≠ zzN) := fun h1 y hy => by
            rw [List.take_succ_eq_append_getElem hmt, List.mem_append] at hy
            rcases hy with hy | hy
            · exact HQ2.out y hy
            · rw [List.mem_singleton.1 hy]; exact h1
          generalize x.l[m] = y at i7 HN
          have hty := bs_tl y.name
          have hm0 : (0 : Int) ≤ (m : Int) := by omega
          have hm1 : (m : Int) < (x.l.length : Int) := by omega
          clear i0 i1 i2 i3 i4 i5 i6 i8
          by_cases hy : y.name = zzN
          · have hy' : (bs y.name).toList = [122, 122, 46, 113] := by rw [hty, hy]
            have hy2 : ((bs y.name).toList == [122, 122, 46, 113]) = true := by rw [hy']; rfl
            clear hty hy
            go_wp2_with fail
            go_ret
            exact ⟨rfl, HB.out⟩
          have hy' : ((bs y.name).toList == [122, 122, 46, 113]) = false := by rw [hty]; simpa using hy
          have hy'' : ¬ (bs y.name).toList = [122, 122, 46, 113] := by rw [hty]; exact hy
          clear hty
          go_wp2_with fail
          go_round
          case rel => exact ⟨m + 1, by omega, by go_num, HN.out hy⟩
          case measure => simp [intOf]; omega
        · have HA : Hid (∀ y ∈ x.l, y.name ≠ zzN) := by have := HQ2.out; rw [List.take_of_length_le (by omega)] at this; exact this
          go_wp2_with fail
          go_roundw
          case rel => exact ⟨k + 1, by omega, by go_num, HX.out hz HA.out, trivial⟩
          case measure => simp [intOf]; omega
    · have HA : Hid (∀ c ∈ l, c.name ≠ zzN ∧ ∀ y ∈ c.l, y.name ≠ zzN) := by have := HQ.out; unfold NoZz at this; rw [List.take_of_length_le (by omega)] at this; exact this
      have HL : Hid _ := zzW wr
      have h1l : 0 < l.length := by omega
      have hrw := (co_at hrow3 0 h1l)
      have hmem : l[0] ∈ l := List.getElem_mem h1l
      generalize l[0] = c0 at hrw hmem
      obtain ⟨b0, o0, pa0, pc0, la0, lc0, ea, _, hb0, hat0, _⟩ := hrw
      subst ea
      have hlen9 : l.length ≤ 1000000000 := by omega
      have hown1 : ((wr.alloc zzI).alloc (zzO wr.heap.size)).ownsRow wr.heap.size 25 5 (.slice (some ⟨wr.heap.size + 1, 0, none⟩) 1 1) 1 (zzL wr.heap.size) :=
        ⟨rfl, .inr ⟨wr.heap.size + 1, 1, _, rfl, by omega, HL.out.co, Nat.le_refl _, by decide, rfl, rfl⟩⟩
      obtain ⟨cs, hlay, hsrc⟩ := kCo.src (tx := 28) (w := (wr.alloc zzI).alloc (zzO wr.heap.size)) (S := fun b => b ≠ wr.heap.size + 1) Try.underlying28 (kCo.row_mono (by decide) hrow3 fun b _ hlt => ⟨by omega, HL.out.below.block b hlt⟩) (c := cp)
      have hzz : kCo.C ((wr.alloc zzI).alloc (zzO wr.heap.size)) (fun b => b ≠ wr.heap.size + 1) (zzL wr.heap.size) zzC := zz_in (by omega) HL.out.irs
      have HLAY : Hid (kCo.lay ((wr.alloc zzI).alloc (zzO wr.heap.size)) (fun b => b ≠ wr.heap.size + 1) (zzL wr.heap.size ++ cs) (zzC :: l)) := ⟨zzL wr.heap.size, cs, rfl, hzz, hlay⟩
      have hbs : wr.heap.size ≤ ((wr.alloc zzI).alloc (zzO wr.heap.size)).heap.size := HL.out.below.size
      have HA0 : Hid _ := hat0
      have HB0 : Hid (b0 < wr.heap.size) := hb0
      have HR3 : Hid _ := hrow3
      clear HQ hat0 hb0 hrow3 h0 h0' h15 h200 nL hlen hzz hlay
      go_wp2_with (first | (at_builtin; refine wpList_append_big co_info rfl Try.underlying28 (by decide) _ rfl _ _ rfl wr.heap.size (.slice (some ⟨wr.heap.size + 1, 0, none⟩) 1 1) 1 (zzL wr.heap.size) rfl hown1 _ l.length cs rfl hsrc (by omega) hbs ?_; intro y c2 w4 hown4 hgrow hat; refine Hid.out ?_) | go_in)
      refine Lib.hid ?_
      have hk4 := Kept.of_grown hgrow
      have hb4 : ∀ b, b < wr.heap.size → w4.heap[b]? = wr.heap[b]? := fun b hlt => (hk4.block b (Nat.lt_of_lt_of_le hlt hbs) (fun e => by have e' : wr.heap.size + 1 = b := Option.some.inj e; omega)).trans (HL.out.below.block b hlt)
      have hlay4 : kCo.lay w4 (fun _ => True) (zzL wr.heap.size ++ cs) (zzC :: l) := kCo.lay_mono HLAY.out fun b hb hlt => ⟨trivial, hk4.block b hlt fun e => hb (by have e' : wr.heap.size + 1 = b := Option.some.inj e; omega)⟩
      have e1 : 1 + l.length = (zzC :: l).length := by rw [List.length_cons]; omega
      have hown5 : kCo.own 25 w4 (fun _ => True) wr.heap.size (.slice y (1 + l.length) c2) (zzC :: l) := ⟨_, by rw [← e1]; exact hown4, hlay4⟩
      obtain ⟨ay, cy, ey, hrowY, hcy⟩ := Kind.own_rd (K := kCo) (T := fun _ => True) hown5 (fun _ _ => trivial) (fun _ _ => trivial)
      injection ey with ey1 ey2 ey3
      subst ey1
      subst ey3
      have hB4 : Below w.heap.size w w4 := by
        refine Kept.to_below ((Below.kept (bl_then HB.out HL.out.below) (fun i => w.heap.size ≤ i)).trans (hk4.mono fun i _ e => ?_)) fun i hi => hi
        have e' : wr.heap.size + 1 = i := Option.some.inj e
        have := HB.out.size
        show w.heap.size ≤ i
        omega
      have hrowL : kCo.row w4 (fun _ => True) (some ⟨b0, o0, none⟩) l := kCo.row_mono (by decide) HR3.out fun b _ hlt => ⟨trivial, hb4 b hlt⟩
      have hat4 := HA0.out.keep (hb4 b0 HB0.out)
      obtain ⟨k0, k1, k2, k3, k4⟩ := hat4
      have hne : c0.name ≠ zzN := (HA.out c0 hmem).1
      have hr4 := run_any (S' := fun _ => True) (some ⟨b0, o0, none⟩) l cp c0.name aa ar ac w4 hrowL hok (by omega) (hg.below hB4) (hok c0 hmem).name (wd_bl har hB4) hac
      have hre := run_zz (fun c hc => (HA.out c hc).2) (fun c hc => (HA.out c hc).1) hne ar
      have hbd := runR_bd l c0.name ar
      generalize runR l c0.name ar = R at hr4 hbd hre
      obtain ⟨r0, zs, br, er⟩ := R
      have HB4 : Hid _ := hB4
      have k0' : w4.cell? ⟨b0, o0, none⟩ = some (.string (bs c0.name)) := k0
      have HA4 : Hid (w4.cell? ⟨b0, o0, none⟩ = some (.string (bs c0.name))) := k0'
      have HRY : Hid _ := hrowY
      have hbl4 : b0 < w4.heap.size := World.block_lt_of_cell? w4 _ k0
      clear hk4 hb4 hlay4 hown5 hrowY hB4 hrowL hown4 hgrow hat hown1 hsrc HLAY hbs HR3 HA0 HL
      go_upto_region 17 with (first | (go_at_call 14; refine hr4.mono ?_; rintro e w9 ⟨ya, yc, ba, bc, rfl, hya, hyc, hba, hbc, hb9⟩))
      have hB9 := bl_then HB4.out hb9
      have hO := heap_alloc_new w9 (.cells #[.int .u32 (r0 : Int), .slice ya zs.length yc] 36)
      have hB10 := bl_alloc hB9 (.cells #[.int .u32 (r0 : Int), .slice ya zs.length yc] 36)
      have hgo : ∀ b, b < w4.heap.size → (w9.alloc (.cells #[.int .u32 (r0 : Int), .slice ya zs.length yc] 36)).heap[b]? = w4.heap[b]? := fun b hlt => (heap_alloc_old w9 _ (Nat.lt_of_lt_of_le hlt hb9.size)).trans (hb9.block b hlt)
      have hrow10 : kCo.row (w9.alloc (.cells #[.int .u32 (r0 : Int), .slice ya zs.length yc] 36)) (fun _ => True) y (zzC :: l) := kCo.row_mono (by decide) HRY.out fun b _ hlt => ⟨trivial, hgo b hlt⟩
      have hya10 : kWd.row (w9.alloc (.cells #[.int .u32 (r0 : Int), .slice ya zs.length yc] 36)) (fun _ => True) ya zs := kWd.row_mono (by decide) hya fun b _ hlt => ⟨trivial, heap_alloc_old w9 _ hlt⟩
      have hba10 : kInt.row (w9.alloc (.cells #[.int .u32 (r0 : Int), .slice ya zs.length yc] 36)) (fun _ => True) ba br := kInt.row_mono (by decide) hba fun b _ hlt => ⟨trivial, heap_alloc_old w9 _ hlt⟩
      have k10 : (w9.alloc (.cells #[.int .u32 (r0 : Int), .slice ya zs.length yc] 36)).cell? ⟨b0, o0, none⟩ = some (.string (bs c0.name)) := by rw [World.cell?_of_block (w := w4) (hgo b0 hbl4)]; exact HA4.out
      generalize World.alloc w9 _ = w10 at hO hB10 hgo hrow10 hya10 hba10 k10 ⊢
      have hokz : ∀ c ∈ zzC :: l, CoOk c := fun c hc => by
        rcases List.mem_cons.1 hc with rfl | hc
        · refine ⟨by simp [zzC], fun y hy => ?_⟩
          simp only [zzC, List.mem_cons, List.not_mem_nil, or_false] at hy
          subst hy; simp
        · exact hok c hc
      have hr11 := run_any (S' := fun _ => True) y (zzC :: l) c2 c0.name aa ar ac w10 hrow10 hokz (by simp; omega) (hg.below hB10) (hok c0 hmem).name (wd_bl har hB10) hac
      rw [hre, List.length_cons] at hr11
      have HO10 : Hid _ := hO
      have HB10 : Hid _ := hB10
      have HY10 : Hid _ := hya10
      have HI10 : Hid _ := hba10
      clear hB9 hO hB10 hgo hrow10 hya10 hba10 hya hba hb9 hr4 hre hokz HRY HA4 HB4 k0 k0' k1 k2 k3 k4 hbl4
      go_upto_region 18 with (first | (go_at_call 14; refine hr11.mono ?_; rintro e w12 ⟨za, zc, da, dc, rfl, hza, hzc, hda, hdc, hb12⟩))
      have hO12 := (hb12.block _ (lt_of_some HO10.out)).trans HO10.out
      have hB12 := bl_then HB10.out hb12
      have hP := heap_alloc_new w12 (.cells #[.int .u32 (r0 : Int), .slice za zs.length zc] 36)
      have hO13 : (w12.alloc (.cells #[.int .u32 (r0 : Int), .slice za zs.length zc] 36)).heap[w9.heap.size]? = some (.cells #[.int .u32 (r0 : Int), .slice ya zs.length yc] 36) := (heap_alloc_old w12 _ (lt_of_some hO12)).trans hO12
      have hB13 := bl_alloc hB12 (.cells #[.int .u32 (r0 : Int), .slice za zs.length zc] 36)
      have hold : ∀ b, b < w10.heap.size → (w12.alloc (.cells #[.int .u32 (r0 : Int), .slice za zs.length zc] 36)).heap[b]? = w10.heap[b]? := fun b hlt => (heap_alloc_old w12 _ (Nat.lt_of_lt_of_le hlt hb12.size)).trans (hb12.block b hlt)
      have hy13 : kWd.row (w12.alloc (.cells #[.int .u32 (r0 : Int), .slice za zs.length zc] 36)) (fun _ => True) ya zs := kWd.row_mono (by decide) HY10.out fun b _ hlt => ⟨trivial, hold b hlt⟩
      have hi13 : kInt.row (w12.alloc (.cells #[.int .u32 (r0 : Int), .slice za zs.length zc] 36)) (fun _ => True) ba br := kInt.row_mono (by decide) HI10.out fun b _ hlt => ⟨trivial, hold b hlt⟩
      have hz13 : kWd.row (w12.alloc (.cells #[.int .u32 (r0 : Int), .slice za zs.length zc] 36)) (fun _ => True) za zs := kWd.row_mono (by decide) hza fun b _ hlt => ⟨trivial, heap_alloc_old w12 _ hlt⟩
      have hd13 : kInt.row (w12.alloc (.cells #[.int .u32 (r0 : Int), .slice za zs.length zc] 36)) (fun _ => True) da br := kInt.row_mono (by decide) hda fun b _ hlt => ⟨trivial, heap_alloc_old w12 _ hlt⟩
      generalize World.alloc w12 _ = w13 at hP hO13 hB13 hold hy13 hi13 hz13 hd13 ⊢
      obtain ⟨p0, p1, _, _⟩ := cells2' hO13
      obtain ⟨q0, q1, _, _⟩ := cells2' hP
      have hs1 := same_any w13 r0 ya za zs yc zc hy13 hz13 (by have h : zs.length ≤ 4096 := hbd.1; omega)
      have HB13 : Hid _ := hB13
      have HI13 : Hid _ := hi13
      have HD13 : Hid _ := hd13
      have HBD : Hid _ := hbd.2
      clear hb12 hO12 hB12 hP hO13 hB13 hold hy13 hi13 hz13 hd13 hza hda hr11 HO10 HB10 HY10 HI10 hbd
      go_upto_region 19 with (first | (go_at_call 16; refine hs1.mono ?_; rintro e w14 ⟨rfl, hb14⟩))
      have hs2 := sameInts_any w14 ba da br bc dc (kInt.row_mono (T := fun _ => True) (by decide) HI13.out fun b _ hlt => ⟨trivial, hb14.block b hlt⟩) (kInt.row_mono (T := fun _ => True) (by decide) HD13.out fun b _ hlt => ⟨trivial, hb14.block b hlt⟩) (by have h : br.length ≤ 60000 := HBD.out; omega)
      have HB14 : Hid _ := bl_then HB13.out hb14
      clear hs1 hb14
      go_upto_region 20 with (first | (go_at_call 17; refine hs2.mono ?_; rintro e w15 ⟨rfl, hb15⟩))
      go_wp2
      go_ret
      exact ⟨rfl, bl_then HB14.out hb15⟩
end Go.Proofs.Ytmglmbeconndhaa
