/- THE WALK of IrunCells. -/
import Derived.Test.YtmglmbeconndhaaIAwake
import Derived.Test.YtmglmbeconndhaaIOneM
import Derived.Test.YtmglmbeconndhaaIValues
import Derived.Deep.CutRange
namespace Go.Proofs.Ytmglmbeconndhaa
open Go.ChangeShapes Go.WideShapes Go.ChangeAt Go.RowKit

abbrev stP (n : Nat) : Obj := .cells #[.bool false, .int .i64 0, .bool false, .int .i64 (n : Int)] 48
abbrev stI (k : Nat) : Obj := .cells #[.int .i64 5, .int .i64 0, .int .i64 1, .int .i64 0, .int .i64 0, .int .i64 0, .int .u32 (k : Int), .string ⟨#[]⟩, .slice none 0 0, .int .i64 6, .int .i64 0, .int .i64 0, .int .i64 0, .int .i64 0, .int .i64 0, .int .u32 (k : Int), .string ⟨#[]⟩, .slice none 0 0, .int .i64 10, .int .i64 0, .int .i64 0, .int .i64 1, .int .i64 0, .int .i64 0, .int .u32 0, .string ⟨#[]⟩, .slice none 0 0] 45
abbrev stO (p q n : Nat) : Obj := .cells #[.string ⟨#[97, 46, 102]⟩, .slice (some ⟨p, 0, none⟩) 2 2, .int .i64 2, .int .i64 (n : Int), .slice (some ⟨q, 0, none⟩) 3 3] 25
/-- The world behind the literals. -/
structure StL (w w1 : World) (n k : Nat) : Prop where
  ps : w1.heap[w.heap.size]? = some (stP n)
  irs : w1.heap[w.heap.size + 1]? = some (stI k)
  co : w1.heap[w.heap.size + 2]? = some (stO w.heap.size (w.heap.size + 1) n)
  below : Below w.heap.size w w1
  size : w1.heap.size = w.heap.size + 3
theorem stL (w : World) (n k : Nat) : StL w (((w.alloc (stP n)).alloc (stI k)).alloc (stO w.heap.size (w.heap.size + 1) n)) n k := by
  have h1 := heap_alloc_new (w.alloc (stP n)) (stI k)
  have h2 := heap_alloc_new ((w.alloc (stP n)).alloc (stI k)) (stO w.heap.size (w.heap.size + 1) n)
  refine ⟨?_, ?_, ?_, bl_alloc (bl_alloc (bl_alloc (Below.refl _ _) _) _) _, by simp⟩
  · rw [heap_alloc_old _ _ (by simp; omega), heap_alloc_old _ _ (by simp)]; exact heap_alloc_new w _
  · rw [heap_alloc_old _ _ (by simp)]; simpa using h1
  · simpa using h2
theorem stI_row {w : World} {q n k : Nat} (hk : k < 4294967296) (h : w.heap[q]? = some (stI k)) : kIr.row w (fun _ => True) (some ⟨q, 0, none⟩) (stC n k).l :=
  kIr.lay_row (S := fun _ => True) (fun _ h => h) q trivial 0 (ir_lay (x := ⟨5, 0, 1, 0, 0, 0, k, [], []⟩) rfl hk (ir_lay (x := ⟨6, 0, 0, 0, 0, 0, k, [], []⟩) rfl hk (ir_lay (x := ⟨10, 0, 0, 1, 0, 0, 0, [], []⟩) rfl (by decide) (ys := []) rfl))) (cells_of h)
theorem stP_row {w : World} {p n : Nat} (h : w.heap[p]? = some (stP n)) : kTy.row w (fun _ => True) (some ⟨p, 0, none⟩) [⟨false, 0⟩, ⟨false, n⟩] :=
  kTy.lay_row (S := fun _ => True) (fun _ h => h) p trivial 0 ⟨[.bool false, .int .i64 0], _, rfl, rfl, ⟨[.bool false, .int .i64 (n : Int)], [], rfl, rfl, rfl⟩⟩ (cells_of h)
/-- What comes of it, wherever it lies. -/
theorem st_run {B : Nat} {w0 w1 wX : World} {l : List Nat} {k x kx : Nat} {y : Option Addr} {c : Nat} (hg : Glob B wX) (hL : StL w0 w1 l.length k) (h1 : 1 ≤ l.length) (h2 : l.length ≤ 16) (hk : k < l.length) (hb : Below w1.heap.size w1 wX) (hco : wX.heap[kx]? = some (stO w0.heap.size (w0.heap.size + 1) l.length)) (har : kWd.row wX (fun _ => True) y (x :: l)) (hc : (x :: l).length ≤ c) :
    Calls Try.prog 14 #[.slice (some ⟨kx, 0, none⟩) 1 1, .string ⟨#[97, 46, 102]⟩, .slice y (1 + l.length) c] wX fun e w' => RunTells wX w' e (l[k], l.set k x, [], 0) := by
  have hp := (hb.block _ (lt_of_some hL.ps)).trans hL.ps
  have hq := (hb.block _ (lt_of_some hL.irs)).trans hL.irs
  have hr : kCo.row wX (fun _ => True) (some ⟨kx, 0, none⟩) [stC l.length k] :=
    kCo.lay_row (S := fun _ => True) (fun _ h => h) kx trivial 0 ⟨coCells (stC l.length k) (some ⟨w0.heap.size, 0, none⟩) 2 (some ⟨w0.heap.size + 1, 0, none⟩) 3, [], rfl, ⟨some ⟨w0.heap.size, 0, none⟩, 2, some ⟨w0.heap.size + 1, 0, none⟩, 3, rfl, ⟨Nat.le_refl _, Nat.le_refl _, stP_row hp, stI_row (by omega) hq⟩⟩, rfl⟩ (cells_of hco)
  have hok : ∀ c ∈ [stC l.length k], CoOk c := fun c hc => by
    rw [List.mem_singleton.1 hc]
    refine ⟨by simp [stC], fun y hy => ?_⟩
    simp only [stC, List.mem_cons, List.not_mem_nil, or_false] at hy
    rcases hy with rfl | rfl | rfl <;> simp
  have := run_any (S' := fun _ => True) (some ⟨kx, 0, none⟩) [stC l.length k] 1 [97, 46, 102] y (x :: l) c wX hr hok (by simp) hg (by simp) har hc
  have e1 : runR [stC l.length k] [97, 46, 102] (x :: l) = (l[k], l.set k x, [], 0) := run_st l k x h1 h2 hk
  have e2 : (x :: l).length = 1 + l.length := by rw [List.length_cons, Nat.add_comm]
  rw [e1, e2] at this
  exact this
/-- Objects made one behind the other. -/
def grow (w : World) : List Obj → World
  | [] => w
  | o :: l => grow (w.alloc o) l
theorem grow_size : ∀ (l : List Obj) (w : World), (grow w l).heap.size = w.heap.size + l.length
  | [], _ => rfl
  | o :: l, w => by rw [grow, grow_size l]; simp; omega
theorem grow_old (w : World) : ∀ (l : List Obj) {k : Nat} {o : Obj}, w.heap[k]? = some o → (grow w l).heap[k]? = some o
  | [], _, _, h => h
  | p :: l, k, o, h => by rw [grow]; exact grow_old (w.alloc p) l ((heap_alloc_old w p (lt_of_some h)).trans h)
theorem grow_at (w : World) : ∀ (l : List Obj) (i : Nat) (h : i < l.length), (grow w l).heap[w.heap.size + i]? = some l[i]
  | o :: l, 0, _ => grow_old (w.alloc o) l (heap_alloc_new w o)
  | o :: l, i + 1, h => by
    have := grow_at (w.alloc o) l i (by simpa using h)
    rw [show (w.alloc o).heap.size + i = w.heap.size + (i + 1) by simp; omega] at this
    exact this
theorem grow_lt (w : World) (l : List Obj) (i : Nat) (h : i < l.length) : w.heap.size + i < (grow w l).drew.heap.size := by
  have := grow_size l w
  show w.heap.size + i < (grow w l).heap.size
  omega
theorem grow_below (w : World) : ∀ (l : List Obj), Below w.heap.size w (grow w l)
  | [] => Below.refl _ _
  | o :: l => by rw [grow]; exact bl_then (bl_alloc (Below.refl _ _) o) (grow_below (w.alloc o) l)
theorem grow_drew (w : World) (l : List Obj) : Below w.heap.size w (grow w l).drew := ⟨(grow_below w l).os, (grow_below w l).tape, (grow_below w l).output, (grow_below w l).size, (grow_below w l).block⟩
theorem grow_row (w : World) (l : List Obj) {a : Option Addr} {r : List Nat} (h : kWd.row w (fun _ => True) a r) : kWd.row (grow w l) (fun _ => True) a r := kWd.row_mono (by decide) h fun b _ hlt => ⟨trivial, (grow_below w l).block b hlt⟩
theorem wd_lay_eq {w : World} {S : Nat → Prop} : ∀ (l : List Nat) (cs : List Value), kWd.lay w S cs l → cs = l.map wv ∧ ∀ n ∈ l, n < 4294967296
  | [], cs, h => ⟨h, fun _ h => by cases h⟩
  | x :: l, cs, h => by
    obtain ⟨c1, c2, rfl, ⟨rfl, hx⟩, hr⟩ := h
    obtain ⟨rfl, hl⟩ := wd_lay_eq l c2 hr
    refine ⟨rfl, fun n hn => ?_⟩
    rcases List.mem_cons.1 hn with rfl | hn
    · exact hx
    · exact hl n hn
theorem src_words {W : World} {a : Option Addr} {l : List Nat} {ac : Nat} (h : kWd.row W (fun _ => True) a l) : Src Try.prog 1 33 (.slice a l.length ac) l.length (l.map wv) W ∧ ∀ n ∈ l, n < 4294967296 := by
  obtain ⟨cs, hlay, hsrc⟩ := kWd.src (tx := 33) Try.underlying33 h (c := ac)
  obtain ⟨rfl, hb⟩ := wd_lay_eq l cs hlay
  exact ⟨hsrc, hb⟩
theorem own_one {W : World} {base b x : Nat} {t : TypeId} (hb : base ≤ b) (h : W.heap[b]? = some (.cells #[.int .u32 (x : Int)] t)) (ht : t = 34) : W.ownsRow base 34 1 (.slice (some ⟨b, 0, none⟩) 1 1) 1 [.int .u32 (x : Int)] := by
  subst ht
  exact ⟨rfl, .inr ⟨b, 1, _, rfl, hb, h, Nat.le_refl _, by decide, rfl, rfl⟩⟩
/-- Behind the append. -/
theorem st_after {w1 W w4 : World} {b x c : Nat} {y : Option Addr} {l : List Nat} (hx : x < 4294967296) (hl : ∀ n ∈ l, n < 4294967296) (hBW : Below w1.heap.size w1 W) (hb : w1.heap.size ≤ b)
    (hown : w4.ownsRow w1.heap.size 34 1 (.slice y (1 + l.length) c) (1 + l.length) ([.int .u32 (x : Int)] ++ l.map wv)) (hgrow : W.grownBy w4 (Value.slice (some ⟨b, 0, none⟩) 1 1).ownBlock) :
    kWd.row w4 (fun _ => True) y (x :: l) ∧ (x :: l).length ≤ c ∧ Below w1.heap.size w1 w4 ∧ ∀ k, k < W.heap.size → k ≠ b → w4.heap[k]? = W.heap[k]? := by
  have hk := Kept.of_grown hgrow
  have hlay : kWd.lay w4 (fun _ => True) ([.int .u32 (x : Int)] ++ l.map wv) (x :: l) := ⟨[.int .u32 (x : Int)], l.map wv, rfl, ⟨rfl, hx⟩, wd_lay l hl⟩
  have e1 : 1 + l.length = (x :: l).length := by rw [List.length_cons]; omega
  have hown5 : kWd.own 34 w4 (fun _ => True) w1.heap.size (.slice y (1 + l.length) c) (x :: l) := ⟨_, by rw [← e1]; exact hown, hlay⟩
  obtain ⟨ay, cy, ey, hrow, hcy⟩ := Kind.own_rd (K := kWd) (T := fun _ => True) hown5 (fun _ _ => trivial) (fun _ _ => trivial)
  injection ey with ey1 ey2 ey3
  subst ey1
  subst ey3
  refine ⟨hrow, hcy, ?_, fun k hlt hne => hk.block k hlt fun e => hne (by have e' : b = k := Option.some.inj e; exact e'.symm)⟩
  refine Kept.to_below ((Below.kept hBW (fun i => w1.heap.size ≤ i)).trans (hk.mono fun i _ e => ?_)) fun i hi => hi
  have e' : b = i := Option.some.inj e
  show w1.heap.size ≤ i
  omega
set_option maxRecDepth 100000 in
set_option maxHeartbeats 40000000 in
theorem cells_walk {B : Nat} (a : Option Addr) (l : List Nat) (ac : Nat) (z : Int) (x : Nat) (hx : x < 4294967296) (w : World) (hg : Glob B w) (har : kWd.row w (fun _ => True) a l) (_ : l.length ≤ ac) :
    Calls Try.prog 8 #[.slice a l.length ac, .int .i64 z, .int .u32 (x : Int)] w fun e w' => e = .returned (.bool true) ∧ Below w.heap.size w w' := by
  by_cases h1 : l.length < 1
  · have h1' : (l.length : Int) < 1 := by omega
    go_enter Try.func8, Try.ntmps8
    go_upto_region 2 with (first | (go_at_call 10; refine (awake_any w hg).mono ?_; rintro e w0 ⟨rfl, hb0⟩))
    go_wp2
    go_ret
    exact ⟨rfl, hb0⟩
  have h1' : ¬ (l.length : Int) < 1 := by omega
  by_cases h2 : 16 < l.length
  · have h2' : (16 : Int) < (l.length : Int) := by omega
    go_enter Try.func8, Try.ntmps8
    go_upto_region 2 with (first | (go_at_call 10; refine (awake_any w hg).mono ?_; rintro e w0 ⟨rfl, hb0⟩))
    go_wp2
    go_ret
    exact ⟨rfl, hb0⟩
  have h2' : ¬ (16 : Int) < (l.length : Int) := by omega
  by_cases h3 : z < 0
  · go_enter Try.func8, Try.ntmps8
    go_upto_region 2 with (first | (go_at_call 10; refine (awake_any w hg).mono ?_; rintro e w0 ⟨rfl, hb0⟩))
    go_wp2
    go_ret
    exact ⟨rfl, hb0⟩
  obtain ⟨A, rfl⟩ : ∃ A : Nat, z = A := ⟨z.toNat, by omega⟩
  go_enter Try.func8, Try.ntmps8
  go_upto_region 2 with (first | (go_at_call 10; refine (awake_any w hg).mono ?_; rintro e w0 ⟨rfl, hb0⟩))
  go_upto_region 5 with fail
  obtain ⟨k, hk, ek⟩ : ∃ k : Nat, k < l.length ∧ (A : Int) % (l.length : Int) = (k : Int) := ⟨A % l.length, Nat.mod_lt _ (by omega), by omega⟩
  rw [ek]
  clear ek h3
  have hk16 : (k : Int) ≤ 15 := by omega
  have HL : Hid _ := stL w0 l.length k
  go_upto_region 6 with fail
  generalize World.alloc (World.alloc (World.alloc w0 _) _) _ = w1 at HL ⊢
  have hL := HL.out
  obtain ⟨k0, k1, k2, k3, k4⟩ := cells5 hL.co
  have hlt1 : w0.heap.size + 2 < w1.heap.size := by rw [hL.size]; omega
  have hlt1' : w0.heap.size + 1 + 1 < w1.heap.size := hlt1
  go_cut [10, 11, 12] from 14 to 112 (fun u10 u11 u12 wx => ∃ bo ya yc, u10 = .pointer (some ⟨bo, 0, none⟩) ∧ u12 = .int .i64 0 ∧ wx.heap[bo]? = some (.cells #[.int .u32 (l[k] : Int), .slice ya l.length yc] 36) ∧ kWd.row wx (fun b => w1.heap.size ≤ b) ya (l.set k x) ∧ Below w1.heap.size w1 wx)
  case first =>
    have HBw := Lib.hid hL.below
    have hgX : ∀ {W : World}, Below w1.heap.size w1 W → Glob B W := fun h => ((hg.below hb0).below HBw.out).below h
    have hrX : ∀ {W : World}, Below w1.heap.size w1 W → kWd.row W (fun _ => True) a l := fun h => kWd.row_mono (by decide) har fun b _ hlt => ⟨trivial, (bl_then (bl_then hb0 HBw.out) h).block b hlt⟩
    obtain ⟨g00, g01, g02, g03, g04⟩ := cells5 (show (w1.alloc (.cells #[.int .u32 (x : Int)] 34)).heap[w0.heap.size + 1 + 1]? = some (stO w0.heap.size (w0.heap.size + 1) l.length) from grow_old w1 [(.cells #[.int .u32 (x : Int)] 34)] hL.co)
    obtain ⟨g10, g11, g12, g13, g14⟩ := cells5 (show (w1.alloc (.cells #[.int .u32 0, .slice none 0 0] 36)).heap[w0.heap.size + 1 + 1]? = some (stO w0.heap.size (w0.heap.size + 1) l.length) from grow_old w1 [(.cells #[.int .u32 0, .slice none 0 0] 36)] hL.co)
    obtain ⟨g20, g21, g22, g23, g24⟩ := cells5 (show ((w1.alloc (.cells #[.int .u32 (x : Int)] 34)).alloc (.cells #[.int .u32 0, .slice none 0 0] 36)).heap[w0.heap.size + 1 + 1]? = some (stO w0.heap.size (w0.heap.size + 1) l.length) from grow_old w1 [(.cells #[.int .u32 (x : Int)] 34), (.cells #[.int .u32 0, .slice none 0 0] 36)] hL.co)
    obtain ⟨g30, g31, g32, g33, g34⟩ := cells5 (show ((w1.alloc (.cells #[.int .u32 0, .slice none 0 0] 36)).alloc (.cells #[.int .u32 (x : Int)] 34)).heap[w0.heap.size + 1 + 1]? = some (stO w0.heap.size (w0.heap.size + 1) l.length) from grow_old w1 [(.cells #[.int .u32 0, .slice none 0 0] 36), (.cells #[.int .u32 (x : Int)] 34)] hL.co)
    obtain ⟨-, hlb⟩ := src_words (ac := ac) har
    go_region_law ((first
      | (refine step_append_src wd_info rfl Try.underlying33 (by decide) (by rfl) _ _ (by rfl) w1.heap.size (.slice (some ⟨w1.heap.size, 0, none⟩) 1 1) 1 [.int .u32 (x : Int)] (by rfl) (own_one (by omega) (grow_at w1 [(.cells #[.int .u32 (x : Int)] 34)] 0 (by simp)) rfl) (.slice a l.length ac) l.length (l.map wv) (by rfl) (src_words (ac := ac) (hrX (grow_drew w1 [(.cells #[.int .u32 (x : Int)] 34)]))).1 (by omega) (grow_drew w1 [(.cells #[.int .u32 (x : Int)] 34)]).size ?_; intro y c2 w4 hown4 hgrow hat; obtain ⟨hr4, hc4, hB4, ho4⟩ := st_after hx hlb (grow_drew w1 [(.cells #[.int .u32 (x : Int)] 34)]) (by omega) hown4 hgrow; have hs4 := hB4.size; have hlt4 : w0.heap.size + 1 + 1 < w4.heap.size := Nat.lt_of_lt_of_le hlt1 hs4; have hcoo := (hB4.block _ (lt_of_some hL.co)).trans hL.co; obtain ⟨l0, l1, l2, l3, l4⟩ := cells5 hcoo; obtain ⟨r0, r1, r2, r3, r4⟩ := cells5 (show (w4.alloc (.cells #[.int .u32 0, .slice none 0 0] 36)).heap[w0.heap.size + 1 + 1]? = some (stO w0.heap.size (w0.heap.size + 1) l.length) from grow_old w4 [(.cells #[.int .u32 0, .slice none 0 0] 36)] hcoo); have hrun0 := st_run (kx := w4.heap.size) (hgX (bl_then hB4 (grow_below w4 [(stO w0.heap.size (w0.heap.size + 1) l.length)]))) HL.out (by omega) (by omega) hk (bl_then hB4 (grow_below w4 [(stO w0.heap.size (w0.heap.size + 1) l.length)])) (grow_at w4 [(stO w0.heap.size (w0.heap.size + 1) l.length)] 0 (by simp)) (grow_row w4 [(stO w0.heap.size (w0.heap.size + 1) l.length)] hr4) hc4; have hBB0 := bl_then hB4 (grow_below w4 [(stO w0.heap.size (w0.heap.size + 1) l.length)]); simp only [grow] at hrun0 hBB0; have hrun1 := st_run (kx := w4.heap.size) (hgX (bl_then hB4 (grow_below w4 [(stO w0.heap.size (w0.heap.size + 1) l.length), (.cells #[.int .u32 0, .slice none 0 0] 36)]))) HL.out (by omega) (by omega) hk (bl_then hB4 (grow_below w4 [(stO w0.heap.size (w0.heap.size + 1) l.length), (.cells #[.int .u32 0, .slice none 0 0] 36)])) (grow_at w4 [(stO w0.heap.size (w0.heap.size + 1) l.length), (.cells #[.int .u32 0, .slice none 0 0] 36)] 0 (by simp)) (grow_row w4 [(stO w0.heap.size (w0.heap.size + 1) l.length), (.cells #[.int .u32 0, .slice none 0 0] 36)] hr4) hc4; have hzz1 : (grow w4 [(stO w0.heap.size (w0.heap.size + 1) l.length), (.cells #[.int .u32 0, .slice none 0 0] 36)]).heap[w4.heap.size + 1]? = some (.cells #[.int .u32 0, .slice none 0 0] 36) := grow_at w4 [(stO w0.heap.size (w0.heap.size + 1) l.length), (.cells #[.int .u32 0, .slice none 0 0] 36)] 1 (by simp); have hBB1 := bl_then hB4 (grow_below w4 [(stO w0.heap.size (w0.heap.size + 1) l.length), (.cells #[.int .u32 0, .slice none 0 0] 36)]); simp only [grow] at hrun1 hBB1; simp only [grow] at hzz1; have hrun2 := st_run (kx := w4.heap.size + 1) (hgX (bl_then hB4 (grow_below w4 [(.cells #[.int .u32 0, .slice none 0 0] 36), (stO w0.heap.size (w0.heap.size + 1) l.length)]))) HL.out (by omega) (by omega) hk (bl_then hB4 (grow_below w4 [(.cells #[.int .u32 0, .slice none 0 0] 36), (stO w0.heap.size (w0.heap.size + 1) l.length)])) (grow_at w4 [(.cells #[.int .u32 0, .slice none 0 0] 36), (stO w0.heap.size (w0.heap.size + 1) l.length)] 1 (by simp)) (grow_row w4 [(.cells #[.int .u32 0, .slice none 0 0] 36), (stO w0.heap.size (w0.heap.size + 1) l.length)] hr4) hc4; have hzz2 : (grow w4 [(.cells #[.int .u32 0, .slice none 0 0] 36), (stO w0.heap.size (w0.heap.size + 1) l.length)]).heap[w4.heap.size]? = some (.cells #[.int .u32 0, .slice none 0 0] 36) := grow_at w4 [(.cells #[.int .u32 0, .slice none 0 0] 36), (stO w0.heap.size (w0.heap.size + 1) l.length)] 0 (by simp); have hBB2 := bl_then hB4 (grow_below w4 [(.cells #[.int .u32 0, .slice none 0 0] 36), (stO w0.heap.size (w0.heap.size + 1) l.length)]); simp only [grow] at hrun2 hBB2; simp only [grow] at hzz2)
      | (refine step_append_src wd_info rfl Try.underlying33 (by decide) (by rfl) _ _ (by rfl) w1.heap.size (.slice (some ⟨w1.heap.size, 0, none⟩) 1 1) 1 [.int .u32 (x : Int)] (by rfl) (own_one (by omega) (grow_at w1 [(.cells #[.int .u32 (x : Int)] 34), (stO w0.heap.size (w0.heap.size + 1) l.length)] 0 (by simp)) rfl) (.slice a l.length ac) l.length (l.map wv) (by rfl) (src_words (ac := ac) (hrX (grow_drew w1 [(.cells #[.int .u32 (x : Int)] 34), (stO w0.heap.size (w0.heap.size + 1) l.length)]))).1 (by omega) (grow_drew w1 [(.cells #[.int .u32 (x : Int)] 34), (stO w0.heap.size (w0.heap.size + 1) l.length)]).size ?_; intro y c2 w4 hown4 hgrow hat; obtain ⟨hr4, hc4, hB4, ho4⟩ := st_after hx hlb (grow_drew w1 [(.cells #[.int .u32 (x : Int)] 34), (stO w0.heap.size (w0.heap.size + 1) l.length)]) (by omega) hown4 hgrow; have hc0 := (ho4 (w1.heap.size + 1) (grow_lt w1 [(.cells #[.int .u32 (x : Int)] 34), (stO w0.heap.size (w0.heap.size + 1) l.length)] 1 (by simp)) (by omega)).trans (grow_at w1 [(.cells #[.int .u32 (x : Int)] 34), (stO w0.heap.size (w0.heap.size + 1) l.length)] 1 (by simp)); have hs4 := hB4.size; have hrun0 := st_run (kx := w1.heap.size + 1) (hgX (bl_then hB4 (grow_below w4 []))) HL.out (by omega) (by omega) hk (bl_then hB4 (grow_below w4 [])) (grow_old w4 [] hc0) (grow_row w4 [] hr4) hc4; have hBB0 := bl_then hB4 (grow_below w4 []); simp only [grow] at hrun0 hBB0; have hrun1 := st_run (kx := w1.heap.size + 1) (hgX (bl_then hB4 (grow_below w4 [(.cells #[.int .u32 0, .slice none 0 0] 36)]))) HL.out (by omega) (by omega) hk (bl_then hB4 (grow_below w4 [(.cells #[.int .u32 0, .slice none 0 0] 36)])) (grow_old w4 [(.cells #[.int .u32 0, .slice none 0 0] 36)] hc0) (grow_row w4 [(.cells #[.int .u32 0, .slice none 0 0] 36)] hr4) hc4; have hzz1 : (grow w4 [(.cells #[.int .u32 0, .slice none 0 0] 36)]).heap[w4.heap.size]? = some (.cells #[.int .u32 0, .slice none 0 0] 36) := grow_at w4 [(.cells #[.int .u32 0, .slice none 0 0] 36)] 0 (by simp); have hBB1 := bl_then hB4 (grow_below w4 [(.cells #[.int .u32 0, .slice none 0 0] 36)]); simp only [grow] at hrun1 hBB1; simp only [grow] at hzz1)
      | (refine step_append_src wd_info rfl Try.underlying33 (by decide) (by rfl) _ _ (by rfl) w1.heap.size (.slice (some ⟨w1.heap.size + 1, 0, none⟩) 1 1) 1 [.int .u32 (x : Int)] (by rfl) (own_one (by omega) (grow_at w1 [(stO w0.heap.size (w0.heap.size + 1) l.length), (.cells #[.int .u32 (x : Int)] 34)] 1 (by simp)) rfl) (.slice a l.length ac) l.length (l.map wv) (by rfl) (src_words (ac := ac) (hrX (grow_drew w1 [(stO w0.heap.size (w0.heap.size + 1) l.length), (.cells #[.int .u32 (x : Int)] 34)]))).1 (by omega) (grow_drew w1 [(stO w0.heap.size (w0.heap.size + 1) l.length), (.cells #[.int .u32 (x : Int)] 34)]).size ?_; intro y c2 w4 hown4 hgrow hat; obtain ⟨hr4, hc4, hB4, ho4⟩ := st_after hx hlb (grow_drew w1 [(stO w0.heap.size (w0.heap.size + 1) l.length), (.cells #[.int .u32 (x : Int)] 34)]) (by omega) hown4 hgrow; have hc0 := (ho4 (w1.heap.size) (grow_lt w1 [(stO w0.heap.size (w0.heap.size + 1) l.length), (.cells #[.int .u32 (x : Int)] 34)] 0 (by simp)) (by omega)).trans (grow_at w1 [(stO w0.heap.size (w0.heap.size + 1) l.length), (.cells #[.int .u32 (x : Int)] 34)] 0 (by simp)); have hs4 := hB4.size; have hrun0 := st_run (kx := w1.heap.size) (hgX (bl_then hB4 (grow_below w4 []))) HL.out (by omega) (by omega) hk (bl_then hB4 (grow_below w4 [])) (grow_old w4 [] hc0) (grow_row w4 [] hr4) hc4; have hBB0 := bl_then hB4 (grow_below w4 []); simp only [grow] at hrun0 hBB0; have hrun1 := st_run (kx := w1.heap.size) (hgX (bl_then hB4 (grow_below w4 [(.cells #[.int .u32 0, .slice none 0 0] 36)]))) HL.out (by omega) (by omega) hk (bl_then hB4 (grow_below w4 [(.cells #[.int .u32 0, .slice none 0 0] 36)])) (grow_old w4 [(.cells #[.int .u32 0, .slice none 0 0] 36)] hc0) (grow_row w4 [(.cells #[.int .u32 0, .slice none 0 0] 36)] hr4) hc4; have hzz1 : (grow w4 [(.cells #[.int .u32 0, .slice none 0 0] 36)]).heap[w4.heap.size]? = some (.cells #[.int .u32 0, .slice none 0 0] 36) := grow_at w4 [(.cells #[.int .u32 0, .slice none 0 0] 36)] 0 (by simp); have hBB1 := bl_then hB4 (grow_below w4 [(.cells #[.int .u32 0, .slice none 0 0] 36)]); simp only [grow] at hrun1 hBB1; simp only [grow] at hzz1)
      | (refine step_append_src wd_info rfl Try.underlying33 (by decide) (by rfl) _ _ (by rfl) w1.heap.size (.slice (some ⟨w1.heap.size, 0, none⟩) 1 1) 1 [.int .u32 (x : Int)] (by rfl) (own_one (by omega) (grow_at w1 [(.cells #[.int .u32 (x : Int)] 34), (.cells #[.int .u32 0, .slice none 0 0] 36)] 0 (by simp)) rfl) (.slice a l.length ac) l.length (l.map wv) (by rfl) (src_words (ac := ac) (hrX (grow_drew w1 [(.cells #[.int .u32 (x : Int)] 34), (.cells #[.int .u32 0, .slice none 0 0] 36)]))).1 (by omega) (grow_drew w1 [(.cells #[.int .u32 (x : Int)] 34), (.cells #[.int .u32 0, .slice none 0 0] 36)]).size ?_; intro y c2 w4 hown4 hgrow hat; obtain ⟨hr4, hc4, hB4, ho4⟩ := st_after hx hlb (grow_drew w1 [(.cells #[.int .u32 (x : Int)] 34), (.cells #[.int .u32 0, .slice none 0 0] 36)]) (by omega) hown4 hgrow; have hz0 := (ho4 (w1.heap.size + 1) (grow_lt w1 [(.cells #[.int .u32 (x : Int)] 34), (.cells #[.int .u32 0, .slice none 0 0] 36)] 1 (by simp)) (by omega)).trans (grow_at w1 [(.cells #[.int .u32 (x : Int)] 34), (.cells #[.int .u32 0, .slice none 0 0] 36)] 1 (by simp)); have hs4 := hB4.size; have hlt4 : w0.heap.size + 1 + 1 < w4.heap.size := Nat.lt_of_lt_of_le hlt1 hs4; have hcoo := (hB4.block _ (lt_of_some hL.co)).trans hL.co; obtain ⟨l0, l1, l2, l3, l4⟩ := cells5 hcoo; obtain ⟨r0, r1, r2, r3, r4⟩ := cells5 (show (w4.alloc (.cells #[.int .u32 0, .slice none 0 0] 36)).heap[w0.heap.size + 1 + 1]? = some (stO w0.heap.size (w0.heap.size + 1) l.length) from grow_old w4 [(.cells #[.int .u32 0, .slice none 0 0] 36)] hcoo); have hrun0 := st_run (kx := w4.heap.size) (hgX (bl_then hB4 (grow_below w4 [(stO w0.heap.size (w0.heap.size + 1) l.length)]))) HL.out (by omega) (by omega) hk (bl_then hB4 (grow_below w4 [(stO w0.heap.size (w0.heap.size + 1) l.length)])) (grow_at w4 [(stO w0.heap.size (w0.heap.size + 1) l.length)] 0 (by simp)) (grow_row w4 [(stO w0.heap.size (w0.heap.size + 1) l.length)] hr4) hc4; have hzz0 : (grow w4 [(stO w0.heap.size (w0.heap.size + 1) l.length)]).heap[w1.heap.size + 1]? = some (.cells #[.int .u32 0, .slice none 0 0] 36) := grow_old w4 [(stO w0.heap.size (w0.heap.size + 1) l.length)] hz0; have hBB0 := bl_then hB4 (grow_below w4 [(stO w0.heap.size (w0.heap.size + 1) l.length)]); simp only [grow] at hrun0 hBB0; simp only [grow] at hzz0)
      | (refine step_append_src wd_info rfl Try.underlying33 (by decide) (by rfl) _ _ (by rfl) w1.heap.size (.slice (some ⟨w1.heap.size + 1, 0, none⟩) 1 1) 1 [.int .u32 (x : Int)] (by rfl) (own_one (by omega) (grow_at w1 [(.cells #[.int .u32 0, .slice none 0 0] 36), (.cells #[.int .u32 (x : Int)] 34)] 1 (by simp)) rfl) (.slice a l.length ac) l.length (l.map wv) (by rfl) (src_words (ac := ac) (hrX (grow_drew w1 [(.cells #[.int .u32 0, .slice none 0 0] 36), (.cells #[.int .u32 (x : Int)] 34)]))).1 (by omega) (grow_drew w1 [(.cells #[.int .u32 0, .slice none 0 0] 36), (.cells #[.int .u32 (x : Int)] 34)]).size ?_; intro y c2 w4 hown4 hgrow hat; obtain ⟨hr4, hc4, hB4, ho4⟩ := st_after hx hlb (grow_drew w1 [(.cells #[.int .u32 0, .slice none 0 0] 36), (.cells #[.int .u32 (x : Int)] 34)]) (by omega) hown4 hgrow; have hz0 := (ho4 (w1.heap.size) (grow_lt w1 [(.cells #[.int .u32 0, .slice none 0 0] 36), (.cells #[.int .u32 (x : Int)] 34)] 0 (by simp)) (by omega)).trans (grow_at w1 [(.cells #[.int .u32 0, .slice none 0 0] 36), (.cells #[.int .u32 (x : Int)] 34)] 0 (by simp)); have hs4 := hB4.size; have hlt4 : w0.heap.size + 1 + 1 < w4.heap.size := Nat.lt_of_lt_of_le hlt1 hs4; have hcoo := (hB4.block _ (lt_of_some hL.co)).trans hL.co; obtain ⟨l0, l1, l2, l3, l4⟩ := cells5 hcoo; obtain ⟨r0, r1, r2, r3, r4⟩ := cells5 (show (w4.alloc (.cells #[.int .u32 0, .slice none 0 0] 36)).heap[w0.heap.size + 1 + 1]? = some (stO w0.heap.size (w0.heap.size + 1) l.length) from grow_old w4 [(.cells #[.int .u32 0, .slice none 0 0] 36)] hcoo); have hrun0 := st_run (kx := w4.heap.size) (hgX (bl_then hB4 (grow_below w4 [(stO w0.heap.size (w0.heap.size + 1) l.length)]))) HL.out (by omega) (by omega) hk (bl_then hB4 (grow_below w4 [(stO w0.heap.size (w0.heap.size + 1) l.length)])) (grow_at w4 [(stO w0.heap.size (w0.heap.size + 1) l.length)] 0 (by simp)) (grow_row w4 [(stO w0.heap.size (w0.heap.size + 1) l.length)] hr4) hc4; have hzz0 : (grow w4 [(stO w0.heap.size (w0.heap.size + 1) l.length)]).heap[w1.heap.size]? = some (.cells #[.int .u32 0, .slice none 0 0] 36) := grow_old w4 [(stO w0.heap.size (w0.heap.size + 1) l.length)] hz0; have hBB0 := bl_then hB4 (grow_below w4 [(stO w0.heap.size (w0.heap.size + 1) l.length)]); simp only [grow] at hrun0 hBB0; simp only [grow] at hzz0)
      | (refine step_append_src wd_info rfl Try.underlying33 (by decide) (by rfl) _ _ (by rfl) w1.heap.size (.slice (some ⟨w1.heap.size, 0, none⟩) 1 1) 1 [.int .u32 (x : Int)] (by rfl) (own_one (by omega) (grow_at w1 [(.cells #[.int .u32 (x : Int)] 34), (stO w0.heap.size (w0.heap.size + 1) l.length), (.cells #[.int .u32 0, .slice none 0 0] 36)] 0 (by simp)) rfl) (.slice a l.length ac) l.length (l.map wv) (by rfl) (src_words (ac := ac) (hrX (grow_drew w1 [(.cells #[.int .u32 (x : Int)] 34), (stO w0.heap.size (w0.heap.size + 1) l.length), (.cells #[.int .u32 0, .slice none 0 0] 36)]))).1 (by omega) (grow_drew w1 [(.cells #[.int .u32 (x : Int)] 34), (stO w0.heap.size (w0.heap.size + 1) l.length), (.cells #[.int .u32 0, .slice none 0 0] 36)]).size ?_; intro y c2 w4 hown4 hgrow hat; obtain ⟨hr4, hc4, hB4, ho4⟩ := st_after hx hlb (grow_drew w1 [(.cells #[.int .u32 (x : Int)] 34), (stO w0.heap.size (w0.heap.size + 1) l.length), (.cells #[.int .u32 0, .slice none 0 0] 36)]) (by omega) hown4 hgrow; have hc0 := (ho4 (w1.heap.size + 1) (grow_lt w1 [(.cells #[.int .u32 (x : Int)] 34), (stO w0.heap.size (w0.heap.size + 1) l.length), (.cells #[.int .u32 0, .slice none 0 0] 36)] 1 (by simp)) (by omega)).trans (grow_at w1 [(.cells #[.int .u32 (x : Int)] 34), (stO w0.heap.size (w0.heap.size + 1) l.length), (.cells #[.int .u32 0, .slice none 0 0] 36)] 1 (by simp)); have hz0 := (ho4 (w1.heap.size + 1 + 1) (grow_lt w1 [(.cells #[.int .u32 (x : Int)] 34), (stO w0.heap.size (w0.heap.size + 1) l.length), (.cells #[.int .u32 0, .slice none 0 0] 36)] 2 (by simp)) (by omega)).trans (grow_at w1 [(.cells #[.int .u32 (x : Int)] 34), (stO w0.heap.size (w0.heap.size + 1) l.length), (.cells #[.int .u32 0, .slice none 0 0] 36)] 2 (by simp)); have hs4 := hB4.size; have hrun0 := st_run (kx := w1.heap.size + 1) (hgX (bl_then hB4 (grow_below w4 []))) HL.out (by omega) (by omega) hk (bl_then hB4 (grow_below w4 [])) (grow_old w4 [] hc0) (grow_row w4 [] hr4) hc4; have hzz0 : (grow w4 []).heap[w1.heap.size + 1 + 1]? = some (.cells #[.int .u32 0, .slice none 0 0] 36) := grow_old w4 [] hz0; have hBB0 := bl_then hB4 (grow_below w4 []); simp only [grow] at hrun0 hBB0)
      | (refine step_append_src wd_info rfl Try.underlying33 (by decide) (by rfl) _ _ (by rfl) w1.heap.size (.slice (some ⟨w1.heap.size, 0, none⟩) 1 1) 1 [.int .u32 (x : Int)] (by rfl) (own_one (by omega) (grow_at w1 [(.cells #[.int .u32 (x : Int)] 34), (.cells #[.int .u32 0, .slice none 0 0] 36), (stO w0.heap.size (w0.heap.size + 1) l.length)] 0 (by simp)) rfl) (.slice a l.length ac) l.length (l.map wv) (by rfl) (src_words (ac := ac) (hrX (grow_drew w1 [(.cells #[.int .u32 (x : Int)] 34), (.cells #[.int .u32 0, .slice none 0 0] 36), (stO w0.heap.size (w0.heap.size + 1) l.length)]))).1 (by omega) (grow_drew w1 [(.cells #[.int .u32 (x : Int)] 34), (.cells #[.int .u32 0, .slice none 0 0] 36), (stO w0.heap.size (w0.heap.size + 1) l.length)]).size ?_; intro y c2 w4 hown4 hgrow hat; obtain ⟨hr4, hc4, hB4, ho4⟩ := st_after hx hlb (grow_drew w1 [(.cells #[.int .u32 (x : Int)] 34), (.cells #[.int .u32 0, .slice none 0 0] 36), (stO w0.heap.size (w0.heap.size + 1) l.length)]) (by omega) hown4 hgrow; have hc0 := (ho4 (w1.heap.size + 1 + 1) (grow_lt w1 [(.cells #[.int .u32 (x : Int)] 34), (.cells #[.int .u32 0, .slice none 0 0] 36), (stO w0.heap.size (w0.heap.size + 1) l.length)] 2 (by simp)) (by omega)).trans (grow_at w1 [(.cells #[.int .u32 (x : Int)] 34), (.cells #[.int .u32 0, .slice none 0 0] 36), (stO w0.heap.size (w0.heap.size + 1) l.length)] 2 (by simp)); have hz0 := (ho4 (w1.heap.size + 1) (grow_lt w1 [(.cells #[.int .u32 (x : Int)] 34), (.cells #[.int .u32 0, .slice none 0 0] 36), (stO w0.heap.size (w0.heap.size + 1) l.length)] 1 (by simp)) (by omega)).trans (grow_at w1 [(.cells #[.int .u32 (x : Int)] 34), (.cells #[.int .u32 0, .slice none 0 0] 36), (stO w0.heap.size (w0.heap.size + 1) l.length)] 1 (by simp)); have hs4 := hB4.size; have hrun0 := st_run (kx := w1.heap.size + 1 + 1) (hgX (bl_then hB4 (grow_below w4 []))) HL.out (by omega) (by omega) hk (bl_then hB4 (grow_below w4 [])) (grow_old w4 [] hc0) (grow_row w4 [] hr4) hc4; have hzz0 : (grow w4 []).heap[w1.heap.size + 1]? = some (.cells #[.int .u32 0, .slice none 0 0] 36) := grow_old w4 [] hz0; have hBB0 := bl_then hB4 (grow_below w4 []); simp only [grow] at hrun0 hBB0)
      | (refine step_append_src wd_info rfl Try.underlying33 (by decide) (by rfl) _ _ (by rfl) w1.heap.size (.slice (some ⟨w1.heap.size + 1, 0, none⟩) 1 1) 1 [.int .u32 (x : Int)] (by rfl) (own_one (by omega) (grow_at w1 [(stO w0.heap.size (w0.heap.size + 1) l.length), (.cells #[.int .u32 (x : Int)] 34), (.cells #[.int .u32 0, .slice none 0 0] 36)] 1 (by simp)) rfl) (.slice a l.length ac) l.length (l.map wv) (by rfl) (src_words (ac := ac) (hrX (grow_drew w1 [(stO w0.heap.size (w0.heap.size + 1) l.length), (.cells #[.int .u32 (x : Int)] 34), (.cells #[.int .u32 0, .slice none 0 0] 36)]))).1 (by omega) (grow_drew w1 [(stO w0.heap.size (w0.heap.size + 1) l.length), (.cells #[.int .u32 (x : Int)] 34), (.cells #[.int .u32 0, .slice none 0 0] 36)]).size ?_; intro y c2 w4 hown4 hgrow hat; obtain ⟨hr4, hc4, hB4, ho4⟩ := st_after hx hlb (grow_drew w1 [(stO w0.heap.size (w0.heap.size + 1) l.length), (.cells #[.int .u32 (x : Int)] 34), (.cells #[.int .u32 0, .slice none 0 0] 36)]) (by omega) hown4 hgrow; have hc0 := (ho4 (w1.heap.size) (grow_lt w1 [(stO w0.heap.size (w0.heap.size + 1) l.length), (.cells #[.int .u32 (x : Int)] 34), (.cells #[.int .u32 0, .slice none 0 0] 36)] 0 (by simp)) (by omega)).trans (grow_at w1 [(stO w0.heap.size (w0.heap.size + 1) l.length), (.cells #[.int .u32 (x : Int)] 34), (.cells #[.int .u32 0, .slice none 0 0] 36)] 0 (by simp)); have hz0 := (ho4 (w1.heap.size + 1 + 1) (grow_lt w1 [(stO w0.heap.size (w0.heap.size + 1) l.length), (.cells #[.int .u32 (x : Int)] 34), (.cells #[.int .u32 0, .slice none 0 0] 36)] 2 (by simp)) (by omega)).trans (grow_at w1 [(stO w0.heap.size (w0.heap.size + 1) l.length), (.cells #[.int .u32 (x : Int)] 34), (.cells #[.int .u32 0, .slice none 0 0] 36)] 2 (by simp)); have hs4 := hB4.size; have hrun0 := st_run (kx := w1.heap.size) (hgX (bl_then hB4 (grow_below w4 []))) HL.out (by omega) (by omega) hk (bl_then hB4 (grow_below w4 [])) (grow_old w4 [] hc0) (grow_row w4 [] hr4) hc4; have hzz0 : (grow w4 []).heap[w1.heap.size + 1 + 1]? = some (.cells #[.int .u32 0, .slice none 0 0] 36) := grow_old w4 [] hz0; have hBB0 := bl_then hB4 (grow_below w4 []); simp only [grow] at hrun0 hBB0)
      | (refine step_append_src wd_info rfl Try.underlying33 (by decide) (by rfl) _ _ (by rfl) w1.heap.size (.slice (some ⟨w1.heap.size + 1 + 1, 0, none⟩) 1 1) 1 [.int .u32 (x : Int)] (by rfl) (own_one (by omega) (grow_at w1 [(stO w0.heap.size (w0.heap.size + 1) l.length), (.cells #[.int .u32 0, .slice none 0 0] 36), (.cells #[.int .u32 (x : Int)] 34)] 2 (by simp)) rfl) (.slice a l.length ac) l.length (l.map wv) (by rfl) (src_words (ac := ac) (hrX (grow_drew w1 [(stO w0.heap.size (w0.heap.size + 1) l.length), (.cells #[.int .u32 0, .slice none 0 0] 36), (.cells #[.int .u32 (x : Int)] 34)]))).1 (by omega) (grow_drew w1 [(stO w0.heap.size (w0.heap.size + 1) l.length), (.cells #[.int .u32 0, .slice none 0 0] 36), (.cells #[.int .u32 (x : Int)] 34)]).size ?_; intro y c2 w4 hown4 hgrow hat; obtain ⟨hr4, hc4, hB4, ho4⟩ := st_after hx hlb (grow_drew w1 [(stO w0.heap.size (w0.heap.size + 1) l.length), (.cells #[.int .u32 0, .slice none 0 0] 36), (.cells #[.int .u32 (x : Int)] 34)]) (by omega) hown4 hgrow; have hc0 := (ho4 (w1.heap.size) (grow_lt w1 [(stO w0.heap.size (w0.heap.size + 1) l.length), (.cells #[.int .u32 0, .slice none 0 0] 36), (.cells #[.int .u32 (x : Int)] 34)] 0 (by simp)) (by omega)).trans (grow_at w1 [(stO w0.heap.size (w0.heap.size + 1) l.length), (.cells #[.int .u32 0, .slice none 0 0] 36), (.cells #[.int .u32 (x : Int)] 34)] 0 (by simp)); have hz0 := (ho4 (w1.heap.size + 1) (grow_lt w1 [(stO w0.heap.size (w0.heap.size + 1) l.length), (.cells #[.int .u32 0, .slice none 0 0] 36), (.cells #[.int .u32 (x : Int)] 34)] 1 (by simp)) (by omega)).trans (grow_at w1 [(stO w0.heap.size (w0.heap.size + 1) l.length), (.cells #[.int .u32 0, .slice none 0 0] 36), (.cells #[.int .u32 (x : Int)] 34)] 1 (by simp)); have hs4 := hB4.size; have hrun0 := st_run (kx := w1.heap.size) (hgX (bl_then hB4 (grow_below w4 []))) HL.out (by omega) (by omega) hk (bl_then hB4 (grow_below w4 [])) (grow_old w4 [] hc0) (grow_row w4 [] hr4) hc4; have hzz0 : (grow w4 []).heap[w1.heap.size + 1]? = some (.cells #[.int .u32 0, .slice none 0 0] 36) := grow_old w4 [] hz0; have hBB0 := bl_then hB4 (grow_below w4 []); simp only [grow] at hrun0 hBB0)
      | (refine step_append_src wd_info rfl Try.underlying33 (by decide) (by rfl) _ _ (by rfl) w1.heap.size (.slice (some ⟨w1.heap.size + 1, 0, none⟩) 1 1) 1 [.int .u32 (x : Int)] (by rfl) (own_one (by omega) (grow_at w1 [(.cells #[.int .u32 0, .slice none 0 0] 36), (.cells #[.int .u32 (x : Int)] 34), (stO w0.heap.size (w0.heap.size + 1) l.length)] 1 (by simp)) rfl) (.slice a l.length ac) l.length (l.map wv) (by rfl) (src_words (ac := ac) (hrX (grow_drew w1 [(.cells #[.int .u32 0, .slice none 0 0] 36), (.cells #[.int .u32 (x : Int)] 34), (stO w0.heap.size (w0.heap.size + 1) l.length)]))).1 (by omega) (grow_drew w1 [(.cells #[.int .u32 0, .slice none 0 0] 36), (.cells #[.int .u32 (x : Int)] 34), (stO w0.heap.size (w0.heap.size + 1) l.length)]).size ?_; intro y c2 w4 hown4 hgrow hat; obtain ⟨hr4, hc4, hB4, ho4⟩ := st_after hx hlb (grow_drew w1 [(.cells #[.int .u32 0, .slice none 0 0] 36), (.cells #[.int .u32 (x : Int)] 34), (stO w0.heap.size (w0.heap.size + 1) l.length)]) (by omega) hown4 hgrow; have hc0 := (ho4 (w1.heap.size + 1 + 1) (grow_lt w1 [(.cells #[.int .u32 0, .slice none 0 0] 36), (.cells #[.int .u32 (x : Int)] 34), (stO w0.heap.size (w0.heap.size + 1) l.length)] 2 (by simp)) (by omega)).trans (grow_at w1 [(.cells #[.int .u32 0, .slice none 0 0] 36), (.cells #[.int .u32 (x : Int)] 34), (stO w0.heap.size (w0.heap.size + 1) l.length)] 2 (by simp)); have hz0 := (ho4 (w1.heap.size) (grow_lt w1 [(.cells #[.int .u32 0, .slice none 0 0] 36), (.cells #[.int .u32 (x : Int)] 34), (stO w0.heap.size (w0.heap.size + 1) l.length)] 0 (by simp)) (by omega)).trans (grow_at w1 [(.cells #[.int .u32 0, .slice none 0 0] 36), (.cells #[.int .u32 (x : Int)] 34), (stO w0.heap.size (w0.heap.size + 1) l.length)] 0 (by simp)); have hs4 := hB4.size; have hrun0 := st_run (kx := w1.heap.size + 1 + 1) (hgX (bl_then hB4 (grow_below w4 []))) HL.out (by omega) (by omega) hk (bl_then hB4 (grow_below w4 [])) (grow_old w4 [] hc0) (grow_row w4 [] hr4) hc4; have hzz0 : (grow w4 []).heap[w1.heap.size]? = some (.cells #[.int .u32 0, .slice none 0 0] 36) := grow_old w4 [] hz0; have hBB0 := bl_then hB4 (grow_below w4 []); simp only [grow] at hrun0 hBB0)
      | (refine step_append_src wd_info rfl Try.underlying33 (by decide) (by rfl) _ _ (by rfl) w1.heap.size (.slice (some ⟨w1.heap.size + 1 + 1, 0, none⟩) 1 1) 1 [.int .u32 (x : Int)] (by rfl) (own_one (by omega) (grow_at w1 [(.cells #[.int .u32 0, .slice none 0 0] 36), (stO w0.heap.size (w0.heap.size + 1) l.length), (.cells #[.int .u32 (x : Int)] 34)] 2 (by simp)) rfl) (.slice a l.length ac) l.length (l.map wv) (by rfl) (src_words (ac := ac) (hrX (grow_drew w1 [(.cells #[.int .u32 0, .slice none 0 0] 36), (stO w0.heap.size (w0.heap.size + 1) l.length), (.cells #[.int .u32 (x : Int)] 34)]))).1 (by omega) (grow_drew w1 [(.cells #[.int .u32 0, .slice none 0 0] 36), (stO w0.heap.size (w0.heap.size + 1) l.length), (.cells #[.int .u32 (x : Int)] 34)]).size ?_; intro y c2 w4 hown4 hgrow hat; obtain ⟨hr4, hc4, hB4, ho4⟩ := st_after hx hlb (grow_drew w1 [(.cells #[.int .u32 0, .slice none 0 0] 36), (stO w0.heap.size (w0.heap.size + 1) l.length), (.cells #[.int .u32 (x : Int)] 34)]) (by omega) hown4 hgrow; have hc0 := (ho4 (w1.heap.size + 1) (grow_lt w1 [(.cells #[.int .u32 0, .slice none 0 0] 36), (stO w0.heap.size (w0.heap.size + 1) l.length), (.cells #[.int .u32 (x : Int)] 34)] 1 (by simp)) (by omega)).trans (grow_at w1 [(.cells #[.int .u32 0, .slice none 0 0] 36), (stO w0.heap.size (w0.heap.size + 1) l.length), (.cells #[.int .u32 (x : Int)] 34)] 1 (by simp)); have hz0 := (ho4 (w1.heap.size) (grow_lt w1 [(.cells #[.int .u32 0, .slice none 0 0] 36), (stO w0.heap.size (w0.heap.size + 1) l.length), (.cells #[.int .u32 (x : Int)] 34)] 0 (by simp)) (by omega)).trans (grow_at w1 [(.cells #[.int .u32 0, .slice none 0 0] 36), (stO w0.heap.size (w0.heap.size + 1) l.length), (.cells #[.int .u32 (x : Int)] 34)] 0 (by simp)); have hs4 := hB4.size; have hrun0 := st_run (kx := w1.heap.size + 1) (hgX (bl_then hB4 (grow_below w4 []))) HL.out (by omega) (by omega) hk (bl_then hB4 (grow_below w4 [])) (grow_old w4 [] hc0) (grow_row w4 [] hr4) hc4; have hzz0 : (grow w4 []).heap[w1.heap.size]? = some (.cells #[.int .u32 0, .slice none 0 0] 36) := grow_old w4 [] hz0; have hBB0 := bl_then hB4 (grow_below w4 []); simp only [grow] at hrun0 hBB0)
      | (refine step_call rfl 14 _ _ rfl #[.slice (some ⟨w1.heap.size, 0, none⟩) 1 1, .string ⟨#[97, 46, 102]⟩, .slice y (1 + l.length) c2] (by simp [go_sem, Act.eval]) ?_; (with_reducible refine hrun0.mono ?_); rintro e w5 ⟨ya, yc, ba, bc, rfl, hya, _, _, _, hb5⟩; have hBW := hBB0; have hz5 := (hb5.block _ (lt_of_some hzz0)).trans hzz0; obtain ⟨z0, z1, z2, z3⟩ := cells2 hz5; have hzl := lt_of_some hzz0)
      | (refine step_call rfl 14 _ _ rfl #[.slice (some ⟨w1.heap.size, 0, none⟩) 1 1, .string ⟨#[97, 46, 102]⟩, .slice y (1 + l.length) c2] (by simp [go_sem, Act.eval]) ?_; (with_reducible refine hrun0.mono ?_); rintro e w5 ⟨ya, yc, ba, bc, rfl, hya, _, _, _, hb5⟩; have hBW := hBB0)
      | (refine step_call rfl 14 _ _ rfl #[.slice (some ⟨w1.heap.size + 1, 0, none⟩) 1 1, .string ⟨#[97, 46, 102]⟩, .slice y (1 + l.length) c2] (by simp [go_sem, Act.eval]) ?_; (with_reducible refine hrun0.mono ?_); rintro e w5 ⟨ya, yc, ba, bc, rfl, hya, _, _, _, hb5⟩; have hBW := hBB0; have hz5 := (hb5.block _ (lt_of_some hzz0)).trans hzz0; obtain ⟨z0, z1, z2, z3⟩ := cells2 hz5; have hzl := lt_of_some hzz0)
      | (refine step_call rfl 14 _ _ rfl #[.slice (some ⟨w1.heap.size + 1, 0, none⟩) 1 1, .string ⟨#[97, 46, 102]⟩, .slice y (1 + l.length) c2] (by simp [go_sem, Act.eval]) ?_; (with_reducible refine hrun0.mono ?_); rintro e w5 ⟨ya, yc, ba, bc, rfl, hya, _, _, _, hb5⟩; have hBW := hBB0)
      | (refine step_call rfl 14 _ _ rfl #[.slice (some ⟨w1.heap.size + 1 + 1, 0, none⟩) 1 1, .string ⟨#[97, 46, 102]⟩, .slice y (1 + l.length) c2] (by simp [go_sem, Act.eval]) ?_; (with_reducible refine hrun0.mono ?_); rintro e w5 ⟨ya, yc, ba, bc, rfl, hya, _, _, _, hb5⟩; have hBW := hBB0; have hz5 := (hb5.block _ (lt_of_some hzz0)).trans hzz0; obtain ⟨z0, z1, z2, z3⟩ := cells2 hz5; have hzl := lt_of_some hzz0)
      | (refine step_call rfl 14 _ _ rfl #[.slice (some ⟨w1.heap.size + 1 + 1, 0, none⟩) 1 1, .string ⟨#[97, 46, 102]⟩, .slice y (1 + l.length) c2] (by simp [go_sem, Act.eval]) ?_; (with_reducible refine hrun0.mono ?_); rintro e w5 ⟨ya, yc, ba, bc, rfl, hya, _, _, _, hb5⟩; have hBW := hBB0)
      | (refine step_call rfl 14 _ _ rfl #[.slice (some ⟨w4.heap.size, 0, none⟩) 1 1, .string ⟨#[97, 46, 102]⟩, .slice y (1 + l.length) c2] (by simp [go_sem, Act.eval]) ?_; (with_reducible refine hrun0.mono ?_); rintro e w5 ⟨ya, yc, ba, bc, rfl, hya, _, _, _, hb5⟩; have hBW := hBB0; have hz5 := (hb5.block _ (lt_of_some hzz0)).trans hzz0; obtain ⟨z0, z1, z2, z3⟩ := cells2 hz5; have hzl := lt_of_some hzz0)
      | (refine step_call rfl 14 _ _ rfl #[.slice (some ⟨w4.heap.size, 0, none⟩) 1 1, .string ⟨#[97, 46, 102]⟩, .slice y (1 + l.length) c2] (by simp [go_sem, Act.eval]) ?_; (with_reducible refine hrun0.mono ?_); rintro e w5 ⟨ya, yc, ba, bc, rfl, hya, _, _, _, hb5⟩; have hBW := hBB0)
      | (refine step_call rfl 14 _ _ rfl #[.slice (some ⟨w4.heap.size + 1, 0, none⟩) 1 1, .string ⟨#[97, 46, 102]⟩, .slice y (1 + l.length) c2] (by simp [go_sem, Act.eval]) ?_; (with_reducible refine hrun0.mono ?_); rintro e w5 ⟨ya, yc, ba, bc, rfl, hya, _, _, _, hb5⟩; have hBW := hBB0; have hz5 := (hb5.block _ (lt_of_some hzz0)).trans hzz0; obtain ⟨z0, z1, z2, z3⟩ := cells2 hz5; have hzl := lt_of_some hzz0)
      | (refine step_call rfl 14 _ _ rfl #[.slice (some ⟨w4.heap.size + 1, 0, none⟩) 1 1, .string ⟨#[97, 46, 102]⟩, .slice y (1 + l.length) c2] (by simp [go_sem, Act.eval]) ?_; (with_reducible refine hrun0.mono ?_); rintro e w5 ⟨ya, yc, ba, bc, rfl, hya, _, _, _, hb5⟩; have hBW := hBB0)
      | (refine step_call rfl 14 _ _ rfl #[.slice (some ⟨w1.heap.size, 0, none⟩) 1 1, .string ⟨#[97, 46, 102]⟩, .slice y (1 + l.length) c2] (by simp [go_sem, Act.eval]) ?_; (with_reducible refine hrun1.mono ?_); rintro e w5 ⟨ya, yc, ba, bc, rfl, hya, _, _, _, hb5⟩; have hBW := hBB1; have hz5 := (hb5.block _ (lt_of_some hzz1)).trans hzz1; obtain ⟨z0, z1, z2, z3⟩ := cells2 hz5; have hzl := lt_of_some hzz1)
      | (refine step_call rfl 14 _ _ rfl #[.slice (some ⟨w1.heap.size, 0, none⟩) 1 1, .string ⟨#[97, 46, 102]⟩, .slice y (1 + l.length) c2] (by simp [go_sem, Act.eval]) ?_; (with_reducible refine hrun1.mono ?_); rintro e w5 ⟨ya, yc, ba, bc, rfl, hya, _, _, _, hb5⟩; have hBW := hBB1)
      | (refine step_call rfl 14 _ _ rfl #[.slice (some ⟨w1.heap.size + 1, 0, none⟩) 1 1, .string ⟨#[97, 46, 102]⟩, .slice y (1 + l.length) c2] (by simp [go_sem, Act.eval]) ?_; (with_reducible refine hrun1.mono ?_); rintro e w5 ⟨ya, yc, ba, bc, rfl, hya, _, _, _, hb5⟩; have hBW := hBB1; have hz5 := (hb5.block _ (lt_of_some hzz1)).trans hzz1; obtain ⟨z0, z1, z2, z3⟩ := cells2 hz5; have hzl := lt_of_some hzz1)
      | (refine step_call rfl 14 _ _ rfl #[.slice (some ⟨w1.heap.size + 1, 0, none⟩) 1 1, .string ⟨#[97, 46, 102]⟩, .slice y (1 + l.length) c2] (by simp [go_sem, Act.eval]) ?_; (with_reducible refine hrun1.mono ?_); rintro e w5 ⟨ya, yc, ba, bc, rfl, hya, _, _, _, hb5⟩; have hBW := hBB1)
      | (refine step_call rfl 14 _ _ rfl #[.slice (some ⟨w1.heap.size + 1 + 1, 0, none⟩) 1 1, .string ⟨#[97, 46, 102]⟩, .slice y (1 + l.length) c2] (by simp [go_sem, Act.eval]) ?_; (with_reducible refine hrun1.mono ?_); rintro e w5 ⟨ya, yc, ba, bc, rfl, hya, _, _, _, hb5⟩; have hBW := hBB1; have hz5 := (hb5.block _ (lt_of_some hzz1)).trans hzz1; obtain ⟨z0, z1, z2, z3⟩ := cells2 hz5; have hzl := lt_of_some hzz1)
      | (refine step_call rfl 14 _ _ rfl #[.slice (some ⟨w1.heap.size + 1 + 1, 0, none⟩) 1 1, .string ⟨#[97, 46, 102]⟩, .slice y (1 + l.length) c2] (by simp [go_sem, Act.eval]) ?_; (with_reducible refine hrun1.mono ?_); rintro e w5 ⟨ya, yc, ba, bc, rfl, hya, _, _, _, hb5⟩; have hBW := hBB1)
      | (refine step_call rfl 14 _ _ rfl #[.slice (some ⟨w4.heap.size, 0, none⟩) 1 1, .string ⟨#[97, 46, 102]⟩, .slice y (1 + l.length) c2] (by simp [go_sem, Act.eval]) ?_; (with_reducible refine hrun1.mono ?_); rintro e w5 ⟨ya, yc, ba, bc, rfl, hya, _, _, _, hb5⟩; have hBW := hBB1; have hz5 := (hb5.block _ (lt_of_some hzz1)).trans hzz1; obtain ⟨z0, z1, z2, z3⟩ := cells2 hz5; have hzl := lt_of_some hzz1)
      | (refine step_call rfl 14 _ _ rfl #[.slice (some ⟨w4.heap.size, 0, none⟩) 1 1, .string ⟨#[97, 46, 102]⟩, .slice y (1 + l.length) c2] (by simp [go_sem, Act.eval]) ?_; (with_reducible refine hrun1.mono ?_); rintro e w5 ⟨ya, yc, ba, bc, rfl, hya, _, _, _, hb5⟩; have hBW := hBB1)
      | (refine step_call rfl 14 _ _ rfl #[.slice (some ⟨w4.heap.size + 1, 0, none⟩) 1 1, .string ⟨#[97, 46, 102]⟩, .slice y (1 + l.length) c2] (by simp [go_sem, Act.eval]) ?_; (with_reducible refine hrun1.mono ?_); rintro e w5 ⟨ya, yc, ba, bc, rfl, hya, _, _, _, hb5⟩; have hBW := hBB1; have hz5 := (hb5.block _ (lt_of_some hzz1)).trans hzz1; obtain ⟨z0, z1, z2, z3⟩ := cells2 hz5; have hzl := lt_of_some hzz1)
      | (refine step_call rfl 14 _ _ rfl #[.slice (some ⟨w4.heap.size + 1, 0, none⟩) 1 1, .string ⟨#[97, 46, 102]⟩, .slice y (1 + l.length) c2] (by simp [go_sem, Act.eval]) ?_; (with_reducible refine hrun1.mono ?_); rintro e w5 ⟨ya, yc, ba, bc, rfl, hya, _, _, _, hb5⟩; have hBW := hBB1)
      | (refine step_call rfl 14 _ _ rfl #[.slice (some ⟨w1.heap.size, 0, none⟩) 1 1, .string ⟨#[97, 46, 102]⟩, .slice y (1 + l.length) c2] (by simp [go_sem, Act.eval]) ?_; (with_reducible refine hrun2.mono ?_); rintro e w5 ⟨ya, yc, ba, bc, rfl, hya, _, _, _, hb5⟩; have hBW := hBB2; have hz5 := (hb5.block _ (lt_of_some hzz2)).trans hzz2; obtain ⟨z0, z1, z2, z3⟩ := cells2 hz5; have hzl := lt_of_some hzz2)
      | (refine step_call rfl 14 _ _ rfl #[.slice (some ⟨w1.heap.size, 0, none⟩) 1 1, .string ⟨#[97, 46, 102]⟩, .slice y (1 + l.length) c2] (by simp [go_sem, Act.eval]) ?_; (with_reducible refine hrun2.mono ?_); rintro e w5 ⟨ya, yc, ba, bc, rfl, hya, _, _, _, hb5⟩; have hBW := hBB2)
      | (refine step_call rfl 14 _ _ rfl #[.slice (some ⟨w1.heap.size + 1, 0, none⟩) 1 1, .string ⟨#[97, 46, 102]⟩, .slice y (1 + l.length) c2] (by simp [go_sem, Act.eval]) ?_; (with_reducible refine hrun2.mono ?_); rintro e w5 ⟨ya, yc, ba, bc, rfl, hya, _, _, _, hb5⟩; have hBW := hBB2; have hz5 := (hb5.block _ (lt_of_some hzz2)).trans hzz2; obtain ⟨z0, z1, z2, z3⟩ := cells2 hz5; have hzl := lt_of_some hzz2)
      | (refine step_call rfl 14 _ _ rfl #[.slice (some ⟨w1.heap.size + 1, 0, none⟩) 1 1, .string ⟨#[97, 46, 102]⟩, .slice y (1 + l.length) c2] (by simp [go_sem, Act.eval]) ?_; (with_reducible refine hrun2.mono ?_); rintro e w5 ⟨ya, yc, ba, bc, rfl, hya, _, _, _, hb5⟩; have hBW := hBB2)
      | (refine step_call rfl 14 _ _ rfl #[.slice (some ⟨w1.heap.size + 1 + 1, 0, none⟩) 1 1, .string ⟨#[97, 46, 102]⟩, .slice y (1 + l.length) c2] (by simp [go_sem, Act.eval]) ?_; (with_reducible refine hrun2.mono ?_); rintro e w5 ⟨ya, yc, ba, bc, rfl, hya, _, _, _, hb5⟩; have hBW := hBB2; have hz5 := (hb5.block _ (lt_of_some hzz2)).trans hzz2; obtain ⟨z0, z1, z2, z3⟩ := cells2 hz5; have hzl := lt_of_some hzz2)
      | (refine step_call rfl 14 _ _ rfl #[.slice (some ⟨w1.heap.size + 1 + 1, 0, none⟩) 1 1, .string ⟨#[97, 46, 102]⟩, .slice y (1 + l.length) c2] (by simp [go_sem, Act.eval]) ?_; (with_reducible refine hrun2.mono ?_); rintro e w5 ⟨ya, yc, ba, bc, rfl, hya, _, _, _, hb5⟩; have hBW := hBB2)
      | (refine step_call rfl 14 _ _ rfl #[.slice (some ⟨w4.heap.size, 0, none⟩) 1 1, .string ⟨#[97, 46, 102]⟩, .slice y (1 + l.length) c2] (by simp [go_sem, Act.eval]) ?_; (with_reducible refine hrun2.mono ?_); rintro e w5 ⟨ya, yc, ba, bc, rfl, hya, _, _, _, hb5⟩; have hBW := hBB2; have hz5 := (hb5.block _ (lt_of_some hzz2)).trans hzz2; obtain ⟨z0, z1, z2, z3⟩ := cells2 hz5; have hzl := lt_of_some hzz2)
      | (refine step_call rfl 14 _ _ rfl #[.slice (some ⟨w4.heap.size, 0, none⟩) 1 1, .string ⟨#[97, 46, 102]⟩, .slice y (1 + l.length) c2] (by simp [go_sem, Act.eval]) ?_; (with_reducible refine hrun2.mono ?_); rintro e w5 ⟨ya, yc, ba, bc, rfl, hya, _, _, _, hb5⟩; have hBW := hBB2)
      | (refine step_call rfl 14 _ _ rfl #[.slice (some ⟨w4.heap.size + 1, 0, none⟩) 1 1, .string ⟨#[97, 46, 102]⟩, .slice y (1 + l.length) c2] (by simp [go_sem, Act.eval]) ?_; (with_reducible refine hrun2.mono ?_); rintro e w5 ⟨ya, yc, ba, bc, rfl, hya, _, _, _, hb5⟩; have hBW := hBB2; have hz5 := (hb5.block _ (lt_of_some hzz2)).trans hzz2; obtain ⟨z0, z1, z2, z3⟩ := cells2 hz5; have hzl := lt_of_some hzz2)
      | (refine step_call rfl 14 _ _ rfl #[.slice (some ⟨w4.heap.size + 1, 0, none⟩) 1 1, .string ⟨#[97, 46, 102]⟩, .slice y (1 + l.length) c2] (by simp [go_sem, Act.eval]) ?_; (with_reducible refine hrun2.mono ?_); rintro e w5 ⟨ya, yc, ba, bc, rfl, hya, _, _, _, hb5⟩; have hBW := hBB2)
      ))
    all_goals go_wp2_with fail
    all_goals go_meet
    all_goals first
      | exact ⟨_, ya, yc, rfl, rfl, set2 hz5, kWd.row_mono (by decide) hya (fun b hb _ => ⟨Nat.le_trans hBW.size hb, by have hne := Nat.ne_of_gt (Nat.lt_of_lt_of_le hzl hb); rw [setCell_other hne, setCell_other hne]⟩), bl_set (bl_set (bl_then hBW hb5) _ 0 _ (by omega)) _ 1 _ (by omega)⟩
      | exact ⟨_, ya, yc, rfl, rfl, heap_alloc_new _ _, kWd.row_mono (by decide) hya (fun b hb hlt => ⟨Nat.le_trans hBW.size hb, heap_alloc_old _ _ hlt⟩), bl_alloc (bl_then hBW hb5) _⟩
  obtain ⟨bo, ya, yc, rfl, rfl, hO, hya, hbc⟩ := hcut
  obtain ⟨p0, p1, _, _⟩ := cells2 hO
  have HB : Hid _ := bl_then (bl_then hb0 hL.below) hbc
  clear k0 k1 k2 k3 k4 hL HL
  have hrw : kWd.row wc (fun _ => True) a l := kWd.row_mono (by decide) har fun b _ hlt => ⟨trivial, HB.out.block b hlt⟩
  have hya2 : kWd.row wc (fun _ => True) ya (l.set k x) := kWd.row_mono (by decide) hya fun b _ _ => ⟨trivial, rfl⟩
  have HO : Hid _ := hO
  have HY : Hid _ := hya2
  have HRW : Hid _ := hrw
  obtain ⟨b, o, ea, _, hb, e1, _⟩ := wd_at hrw k hk
  have HK : Hid _ := hk
  have hk0 : (0 : Int) ≤ (k : Int) := by omega
  have hk1 : (k : Int) < (l.length : Int) := by omega
  subst ea
  generalize hgl : l[k] = lk at e1 p0 hO HO
  clear hrw hya2 hya hbc hO hb0 hgl
  go_wp2_with fail
  go_quiet (fail)
  go_wp2_with fail
  have HB7 : Hid (Below w.heap.size w (wc.drewN nq)) := bl_then HB.out (drewN_below _ _)
  go_loopw [13] (fun i wr => ∃ j : Nat, j ≤ l.length ∧ i = .int .i64 j ∧ Below wc.heap.size wc wr) (fun i _ => l.length - (intOf i).toNat)
  case atStart => exact ⟨0, Nat.zero_le _, rfl, drewN_below _ _⟩
  case round =>
    obtain ⟨j, hj, rfl, hbl⟩ := hrel
    have HBL : Hid (Below wc.heap.size wc wr) := hbl
    by_cases hlt : j < l.length
    · obtain ⟨b1, o1, ea, _, hb1, c1, _⟩ := wd_at HRW.out j hlt
      obtain ⟨b2, o2, eb, _, hb2, c2, _⟩ := wd_at HY.out j (by rw [List.length_set]; exact hlt)
      have ha1 : b1 = b ∧ o1 = o := by have := Option.some.inj ea; injection this with q1 q2 _; exact ⟨q1.symm, q2.symm⟩
      obtain ⟨rfl, rfl⟩ := ha1
      subst eb
      have d1 := (hbl.cell (p := ⟨b1, o1 + j, none⟩) hb1).trans c1
      have d2 := (hbl.cell (p := ⟨b2, o2 + j, none⟩) hb2).trans c2
      obtain ⟨p0, p1, _, _⟩ := cells2 ((hbl.block _ (lt_of_some HO.out)).trans HO.out)
      have hj0 : (0 : Int) ≤ (j : Int) := by omega
      have hj1 : (j : Int) < (l.length : Int) := by omega
      clear c1 c2 hbl ea
      by_cases hjk : j = k
      · subst hjk
        rw [List.getElem_set_self] at d2
        generalize l[j] = lj at d1
        go_wp2_with fail
        go_quiet (fail)
        go_wp2_with fail
        go_roundw
        case rel => exact ⟨j + 1, by omega, by go_num, bl_then HBL.out (drewN_below _ _)⟩
        case measure => simp [intOf]; omega
      · rw [List.getElem_set_ne (fun e => hjk e.symm)] at d2
        have hjk' : ((j : Int) == (k : Int)) = false := by rw [beq_eq_false_iff_ne]; omega
        have hjk2 : ¬ (j : Int) = (k : Int) := by omega
        have hjk3 : ((j : Int) != (k : Int)) = true := by rw [bne_iff_ne]; exact hjk2
        have hjk4 : (!(((j : Int) == (k : Int)))) = true := by rw [hjk']; rfl
        generalize l[j] = lj at d1 d2
        go_wp2_with fail
        go_quiet (fail)
        go_wp2_with fail
        go_roundw
        case rel => exact ⟨j + 1, by omega, by go_num, bl_then HBL.out (drewN_below _ _)⟩
        case measure => simp [intOf]; omega
    · clear hbl
      go_wp2_with fail
      go_ret
      exact ⟨rfl, bl_then HB.out HBL.out⟩
end Go.Proofs.Ytmglmbeconndhaa
