/- CONTRACT of folded. -/
import Derived.Test.YtclajapdbphlbaaGFoldM
import Derived.Test.YtclajapdbphlbaaIApp2
import Derived.Deep.LoopGhost
import Derived.Deep.CutRange
import Derived.WalkMore
namespace Go.Proofs.Ytclajapdbphlbaa
open Go.ChangeShapes Go.WideShapes Go.ChangeAt Go.RowKit

theorem ir_info : (Try.prog.info? 36).map (fun i => (i.zero, i.size, i.bytes)) = some (some (.agg #[.int .i64 0, .int .i64 0, .int .i64 0, .int .i64 0, .int .i64 0, .int .i64 0, .int .u32 0, .string ⟨#[]⟩, .slice none 0 0]), 9, 96) := by kernel_rfl
theorem make_irs (w : World) (n : Nat) (hn : n ≤ 1000000) : ∃ O : Obj, (Instr.makeSlice 23 (.int .i64 0) (.int .i64 (n : Int))).run Try.prog w = .ok (.slice (some ⟨w.heap.size, 0, none⟩) 0 n) (w.alloc O) ∧ (w.alloc O).ownsRow w.heap.size 36 9 (.slice (some ⟨w.heap.size, 0, none⟩) 0 n) 0 [] := by
  obtain ⟨i0, hi0, hz0, hz1, hz2⟩ := info_parts ir_info
  have hr := run_make (P := Try.prog) w 23 36 i0 _ Try.underlying23 hi0 hz0 .i64 .i64 0 (n : Int) (Int.le_refl _) (by omega) (by rw [hz2]; omega) (by omega)
  simp only [Int.toNat_zero, Int.toNat_natCast] at hr
  refine ⟨_, hr, World.ownsRow_made w _ n (Nat.le_refl _) (by unfold maxLen; omega) ?_⟩
  rw [size_madeCells, hz1]
/-- What is asked of instructions. -/
structure FoldOk (l : List Ir) : Prop where
  len : l.length ≤ 10000
  jump : JumpOk l
  reg : ∀ x ∈ l, RegOk x
  dst : ∀ x ∈ l, writesB x = true → 0 ≤ x.d ∧ x.d ≤ 100000
  kind : ∀ x ∈ l, 1 ≤ x.kind ∧ x.kind ≤ 10
  args : ∀ x ∈ l, x.args.length ≤ 1000000
theorem src_ir (w : World) (x : Ir) (y : Option Addr) (c2 : Nat) : Src Try.prog 9 23 (.slice (some ⟨w.heap.size, 0, none⟩) 1 1) 1 (irCells x y c2) (w.alloc (irB x y c2)) :=
  Src.ofSlice _ Try.underlying23 ⟨w.heap.size, 0, none⟩ 1 1 (irCells x y c2) rfl (World.news_of_block (cs := (irCells x y c2).toArray) (t := 36) (fr := (0, 0)) (heap_alloc_new w _)) (by simp [irCells, Value.oneCell'])
theorem Mid.own9 {w wm : World} {l : List Ir} {B k : Nat} {K : Kws} {o : List Ir} {x : Ir} {v : Value} {b n p : Nat} {y : Option Addr} {c2 : Nat} (h : Mid w l B k K o x o v b n p y c2 wm) (O : Obj) : ∃ cs, (wm.alloc O).ownsRow w.heap.size 36 9 v k cs ∧ kIr.lay wm (fun j => Free w B v (.map (some b)) j ∧ j ≠ p) cs o := by
  obtain ⟨cs, h1, h2⟩ := h.out
  rw [h.len] at h1
  exact ⟨cs, own_kept h1 (Kept.alloc wm O (fun _ => False)) (fun _ _ e => e), h2⟩
theorem ir_size : (Try.prog.info? 36).map (·.size) = some 9 := by kernel_rfl
theorem wpl_store_ir {ops : Array Oper} {rest : List Oper} {op : Oper} {a : Act} {w : World} {Q : Exit → Act → World → Prop} (hgd : op.guard = none) (x y : Operand) (ho : op.op = .store 36 x y) (g o : Nat) (d : Int) (n : Nat) (hx : a.eval x = .pointer (some ⟨g, o, none⟩))
    (hy : a.eval y = .agg #[.int .i64 1, .int .i64 0, .int .i64 d, .int .i64 0, .int .i64 0, .int .i64 0, .int .u32 (n : Int), .string ⟨#[]⟩, .slice none 0 0]) (ht : w.there g o 9) (h : wpList Try.prog ops Q rest (a.put op.dst undef) (w.setCells g o (irCells (cIr d n) none 0))) : wpList Try.prog ops Q (op :: rest) a w :=
  wpList_store_mid hgd 36 x y ho g o #[.int .i64 1, .int .i64 0, .int .i64 d, .int .i64 0, .int .i64 0, .int .i64 0, .int .u32 (n : Int), .string ⟨#[]⟩, .slice none 0 0] hx hy ht ir_size (by simp [Value.oneCell']) h
/-- Its arguments lie where they may. -/
theorem Mid.mine {w wc w2 : World} {l : List Ir} {B k : Nat} {K : Kws} {o : List Ir} {x : Ir} {v : Value} {b n p : Nat} {ga y : Option Addr} {gc c2 : Nat} {u : Value} (h : Mid w l B k K o x o v b n p ga gc wc) (hn : x.n < 4294967296) (hc : x.args.length ≤ c2) (hr : kInt.row w2 (fun j => wc.heap.size ≤ j) y x.args) : kIr.C (w2.setCell ⟨p, 8, none⟩ u) (fun j => Free w B v (.map (some b)) j ∧ j ≠ p) (irCells x y c2) x := by
  have h1 := h.below.size
  have h2 := lt_of_some h.begins
  have h3 := lt_of_some h.box
  have h4 := h.kno.lt
  have h5 : ∀ g, v.ownBlock = some g → g < wc.heap.size := fun g hg => (kIr.own_lt h.out g hg).2
  refine ⟨y, c2, rfl, hc, hn, kInt.row_mono (by decide) hr fun j hj _ => ⟨⟨⟨by omega, by omega, fun e => by have := h5 j e; omega, fun e => ?_⟩, by omega⟩, setCell_other (by omega)⟩⟩
  have e2 : b = j := by injection e with e; exact Option.some.inj e
  omega
set_option maxRecDepth 100000 in
set_option maxHeartbeats 4000000 in
theorem folded_any {S : Nat → Prop} (w : World) (a : Option Addr) (l : List Ir) (c : Nat) (h : kIr.row w S a l) (hok : FoldOk l) :
    Calls Try.prog 23 #[.slice a l.length c] w fun e w' => (∃ v, e = .returned v ∧ kIr.rd w' (fun b => w.heap.size ≤ b) v (foldL l)) ∧ Below w.heap.size w w' := by
  have hlen := hok.len
  obtain ⟨O, hmk, hown⟩ := make_irs w l.length (by omega)
  have hb1 := bl_alloc (Below.refl w.heap.size w) O
  have hrow1 : kIr.row (w.alloc O) S a l := kIr.row_mono (by decide) h fun b hb hlt => ⟨hb, hb1.block b hlt⟩
  have hz1 : (w.alloc O).heap.size = w.heap.size + 1 := by simp
  have hbk := blocks_any (w.alloc O) a l c hrow1 (by omega) hok.jump
  rw [hz1] at hbk
  have HF : Hid (∀ w2 : World, w2.heap[w.heap.size + 1]? = some (.cells (bvs (begs l)) 4) → Below (w.heap.size + 1) (w.alloc O) w2 → FoldAt w l (w.heap.size + 1) 0 kNone [] (.slice (some ⟨w.heap.size, 0, none⟩) 0 l.length) (.map none) w2) := fun w2 hbeg hb2 => by
    rw [← hz1] at hb2
    exact ⟨rfl, rfl, WordOk.none, .inl ⟨rfl, rfl⟩, hbeg, fun e => by have : w.heap.size = w.heap.size + 1 := Option.some.inj e; omega, ⟨[], own_kept hown (Below.kept hb2 (fun _ => False)) (fun _ _ e => e), rfl⟩, bl_then hb1 hb2⟩
  clear hown hb1 hrow1 hz1
  go_enter Try.func23, Try.ntmps23
  go_wp2
  go_step3
  go_wp2_with (first | (go_at_call 37; refine hbk.mono ?_; rintro e w2 ⟨rfl, hbeg, hb2⟩; refine Hid.out ?_))
  refine Lib.hid ?_
  have HS : Hid _ := HF.out w2 hbeg hb2
  clear hbk hbeg hb2 HF hmk
  go_wp2
  go_step3
  go_wp2
  go_loopg [3, 5, 20] l.length (fun g v kn i wr => ∃ (k : Nat) (K : Kws) (o : List Ir), g = l.length - k ∧ k ≤ l.length ∧ i = .int .i64 k ∧ FoldAt w l (w.heap.size + 1) k K o v kn wr)
  case atStart => exact ⟨0, kNone, [], rfl, Nat.zero_le _, rfl, HS.out⟩
  case round =>
    obtain ⟨k, K, o, hg, hk, rfl, hAt⟩ := hrel
    obtain ⟨vx, vc, hv⟩ := kIr.own_form hAt.out
    rw [hAt.len] at hv
    subst hv
    have HA : Hid _ := hAt
    by_cases hlt : k < l.length
    · obtain ⟨b2, o2, ga, gc, rfl, hS, hb2, hia, hgc, hn, hrow⟩ := ir_at h k hlt
      have hia' := hia.keep (hAt.below.block b2 hb2)
      obtain ⟨e0, e1, e2, e3, e4, e5, e6, e7, e8⟩ := hia'
      obtain ⟨x, hx⟩ : ∃ x, l[k] = x := ⟨_, rfl⟩
      have hmem : x ∈ l := hx ▸ List.getElem_mem hlt
      rw [hx] at e0 e1 e2 e3 e4 e5 e6 e7 e8 hgc hn hrow
      have HX : Hid (l[k] = x) := hx
      have hbe := brow_cell hAt.begins (k := k) (by rw [begs_len]; omega)
      have HG : Hid ((begs l).getD k false = (begs l)[k]'(by rw [begs_len]; omega)) := by show _ = _; rw [List.getD_eq_getElem?_getD, List.getElem?_eq_getElem (by rw [begs_len]; omega)]; rfl
      have HR : Hid _ := hrow
      have hwr := hAt.below.size
      have hsB := lt_of_some hAt.begins
      clear hia hrow hAt hx
      generalize (begs l)[k]'(by rw [begs_len]; omega) = bg at hbe HG
      go_upto_if 28 with fail
      go_cut [5] from 25 to 92 (fun kn2 wx => ∃ b n, kn2 = .map (some b) ∧ Mid w l (w.heap.size + 1) k (ahead (begs l) k K) o x o (.slice vx k vc) b n wr.heap.size ga gc wx)
      case first =>
        cases bg
        · obtain ⟨b, n, rfl, hM⟩ := HA.out.stay hlt HG.out x HX.out ga gc
          have HM : Hid _ := hM
          clear hM
          go_wp2
          go_meet
          exact ⟨b, n, rfl, HM.out⟩
        · have HM : Hid _ := HA.out.fresh hlt HG.out x HX.out ga gc
          have hmm := run_makeMap (P := Try.prog) 86 (wr.alloc (irB x ga gc))
          go_wp2
          go_meet
          exact ⟨_, _, rfl, by rw [ahead_yes HG.out]; exact HM.out⟩
      case rest =>
        obtain ⟨b, n, rfl, hM⟩ := hcut
        have HM : Hid _ := hM
        have hrow2 : kInt.row wc S ga x.args := kInt.row_mono (by decide) HR.out fun j hj hlt => ⟨hj, hM.below.block j hlt⟩
        have hcl := cloneI_any wc ga x.args gc hrow2 (hok.args x hmem)
        obtain ⟨i0, i1, i2, i3, i4, i5, i6, i7, i8⟩ := irB_at hM.box
        have hpc := lt_of_some hM.box
        clear hM hrow2 e0 e1 e2 e3 e4 e5 e6 e7 e8 hbe HG HR
        go_upto_region 10 with (first | (go_at_call 38; refine hcl.mono ?_; rintro e w2 ⟨⟨v2, rfl, y, c2, rfl, hry, hcy⟩, hb2⟩; have hM2 := HM.out.on hb2; obtain ⟨j0, j1, j2, j3, j4, j5, j6, j7, j8⟩ := irB_at hM2.box; have hf2 := brow_free hM2.box))
        have hC3 := HM.out.mine (u := .slice y x.args.length c2) hn hcy hry
        have hM3 := hM2.args (y' := y) (c' := c2)
        generalize World.setCell w2 _ _ = w3 at hC3 hM3 ⊢
        have HM3 : Hid _ := hM3
        have HC3 : Hid _ := hC3
        obtain ⟨cs, hown, hlay⟩ := hM3.own9 (irB x y c2)
        have HL : Hid _ := hlay
        have hsrc := src_ir w3 x y c2
        have hvg : Hid (∀ g, (Value.slice vx k vc).ownBlock = some g → w.heap.size ≤ g) := fun g hg => (kIr.own_lt hM3.out g hg).1
        obtain ⟨q0, q1, q2, q3, q4, q5, q6, q7, q8⟩ := irB_at hM3.box
        have hbs : w.heap.size ≤ (w3.alloc (irB x y c2)).heap.size := Nat.le_trans hM3.below.size (bl_alloc (Below.refl w3.heap.size w3) (irB x y c2)).size
        clear hM3 hC3 hlay i0 i1 i2 i3 i4 i5 i6 i7 i8 j0 j1 j2 j3 j4 j5 j6 j7 j8 hf2 hM2 hb2 hcl hry HM
        go_upto_region 11 with (first | (at_builtin; refine wpList_append_big ir_info rfl Try.underlying23 (by decide) _ rfl _ _ rfl w.heap.size (.slice vx k vc) k cs rfl hown _ 1 (irCells x y c2) rfl hsrc (by omega) hbs ?_; intro y5 c5 w5 hown5 hgrow5 hat5))
        have HM5 : Hid _ := HM3.out.push HL.out hown5 _ hgrow5 hat5 hvg.out HC3.out
        clear hown5 hgrow5 hat5 hvg HL HC3 HM3 hsrc hown hbs q0 q1 q2 q3 q4 q5 q6 q7 q8
        have hnn : n ≤ 1000000 := by have := HM5.out.nk; omega
        have hkx := hok.kind x hmem
        generalize ahead (begs l) k K = K1 at HM5
        have hkn : Kno w5 b n K1 := HM5.out.kno
        obtain ⟨q0, q1, q2, q3, q4, q5, q6, q7, q8⟩ := irB_at HM5.out.box
        by_cases k1 : x.kind = 1
        · have hd := hok.dst x hmem (by simp [writesB, k1])
          obtain ⟨w6, hput, hk6, hkp6, hz6⟩ := hkn.put hnn hd.1 hd.2 hn
          have hnx : nextK K1 x = kPut K1 x.d (some x.n) := by unfold nextK; rw [if_pos k1]
          have HWK : WordOk (kPut K1 x.d (some x.n)) := HM5.out.wok.put _ fun m e => by injection e with e; omega
          have HF : Hid _ := HM5.out.next (foldX_not K1 (mayW_not (by omega) (by omega) (by omega))) (by rw [hnx]; exact hk6) (by have := HM5.out.nk; omega) hkp6 (by rw [hnx]; exact HWK)
          clear hkn hnn HM5 hk6 hkp6 hnx HWK
          go_wp2_with fail
          go_roundg (l.length - (k + 1))
          case measure => omega
          case rel => exact ⟨k + 1, _, _, rfl, by omega, by go_num, HF.out⟩
        by_cases k57 : x.kind = 5 ∨ x.kind = 7
        · have hd := hok.dst x hmem (by simp [writesB]; omega)
          obtain ⟨w6, hdel, hk6, hkp6, hz6⟩ := hkn.drop hd.1 hd.2 0
          have hnx : nextK K1 x = kPut K1 x.d none := by unfold nextK; rw [if_neg (by omega), if_pos k57]
          have HWK : WordOk (kPut K1 x.d none) := HM5.out.wok.put _ fun m e => by cases e
          have HF : Hid _ := HM5.out.next (foldX_not K1 (mayW_not (by omega) (by omega) (by omega))) (by rw [hnx]; exact hk6) (by have := HM5.out.nk; omega) hkp6 (by rw [hnx]; exact HWK)
          clear hkn hnn HM5 hk6 hkp6 hnx HWK
          rcases k57 with k5 | k7
          all_goals
            go_wp2_with fail
            go_roundg (l.length - (k + 1))
            case measure => omega
            case rel => exact ⟨k + 1, _, _, rfl, by omega, by go_num, HF.out⟩
        by_cases k6 : x.kind = 6 ∨ x.kind = 8 ∨ x.kind = 9 ∨ x.kind = 10
        · have hnx : nextK K1 x = K1 := by unfold nextK; rw [if_neg (by omega), if_neg (by omega), mayW_not (by omega) (by omega) (by omega)]; rfl
          have HWK : WordOk K1 := HM5.out.wok
          have hk6' := hkn
          have hkp6 := Kept.refl (fun j => j = b) w5
          have HF : Hid _ := HM5.out.next (foldX_not K1 (mayW_not (by omega) (by omega) (by omega))) (by rw [hnx]; exact hk6') (by have := HM5.out.nk; omega) hkp6 (by rw [hnx]; exact HWK)
          clear hkn hnn HM5 hk6' hkp6 hnx HWK
          rcases k6 with k6 | k6 | k6 | k6
          all_goals
            go_wp2_with fail
            go_roundg (l.length - (k + 1))
            case measure => omega
            case rel => exact ⟨k + 1, _, _, rfl, by omega, by go_num, HF.out⟩
        have hm : mayW x = true := mayW_yes (by omega)
        have hd := hok.dst x hmem (by simp [writesB]; have := mayW_kind hm; omega)
        have hne := needed_any x y c2 w5 hm (hok.reg x hmem) hkn HM5.out.wok
        have HMK : Hid _ := mayW_kind hm
        have hmk := mayW_kind hm
        have g1 : (x.kind == 1) = false := by simp; omega
        have g5 : (x.kind == 5) = false := by simp; omega
        have g6 : (x.kind == 6) = false := by simp; omega
        have g7 : (x.kind == 7) = false := by simp; omega
        have g8 : (x.kind == 8) = false := by simp; omega
        have g9 : (x.kind == 9) = false := by simp; omega
        have g10 : (x.kind == 10) = false := by simp; omega
        clear hkn hmk k1 k57 k6 hkx
        go_upto_region 22 with (first | (go_at_call 39; refine hne.mono ?_; rintro e w7 ⟨⟨cc, rfl⟩, hrw, hb7⟩))
        have HM7 : Hid _ := HM5.out.on hb7
        have HR7 : Hid _ := hrw
        have hnl := need_len K1 x
        have HNR : Hid _ := need_reads K1 hm (hok.reg x hmem)
        have HNA : Hid _ := need_all K1 hm
        clear hne hrw hb7 HM5 g1 g5 g6 g7 g8 g9 g10 q0 q1 q2 q3 q4 q5 q6 q7 q8
        generalize needR K1 x = nr at HR7 hnl HNR HNA ⊢
        go_loopg [62] nr.length (fun g2 j wy => ∃ m : Nat, g2 = nr.length - m ∧ m ≤ nr.length ∧ j = .int .i64 m ∧ wy = w7 ∧ (nr.take m).all (fun r => (K1 r).isSome) = true)
        case atStart => exact ⟨0, rfl, Nat.zero_le _, rfl, rfl, rfl⟩
        case round =>
          obtain ⟨m, hg2, hmn, rfl, hwy, hall⟩ := hrel
          have hwy' := hwy.symm
          subst hwy'
          have HAL : Hid _ := hall
          obtain ⟨i0, i1, i2, i3, i4, i5, i6, i7, i8⟩ := irB_at HM7.out.box
          have hk7 := HM7.out.kno
          clear hall
          by_cases hmt : m < nr.length
          · obtain ⟨bn, on, ebn, _, _, hcn⟩ := int_at HR7.out m hmt
            have ebn' : w5.heap.size + 1 = bn ∧ 0 = on := by injection ebn with ebn; injection ebn with e1 e2; exact ⟨e1, e2⟩
            obtain ⟨rfl, rfl⟩ := ebn'
            rw [Nat.zero_add] at hcn
            have hrr := HNR.out nr[m] (List.getElem_mem hmt)
            have hlk := hk7.look2 hrr.1 hrr.2
            have HNX : Hid ((K1 nr[m]).isSome = true → (nr.take (m + 1)).all (fun r => (K1 r).isSome) = true) := fun h => by
              rw [List.take_succ_eq_append_getElem hmt, List.all_append, HAL.out]; simp [h]
            have HNO : Hid ((K1 nr[m]).isSome = false → worth K1 x = none) := fun h => by
              have h1 : nr.all (fun r => (K1 r).isSome) = false := by
                rw [List.all_eq_false]; exact ⟨nr[m], List.getElem_mem hmt, by rw [h]; decide⟩
              rw [HNA.out] at h1
              cases e : worth K1 x with
              | none => rfl
              | some v => rw [e] at h1; cases h1
            generalize (K1 nr[m]).getD 0 = val at hlk
            generalize (K1 nr[m]).isSome = isv at hlk HNX HNO
            clear ebn
            generalize nr[m] = rg at hcn hlk hrr
            cases isv
            · have hw0 := HNO.out rfl
              obtain ⟨w8, hdel, hk8, hkp8, hz8⟩ := hk7.drop hd.1 hd.2 0
              have hnx : nextK K1 x = kPut K1 x.d none := by rw [nextK_may K1 hm, hw0]
              have HF : Hid _ := HM7.out.next (foldX_none hw0) (by rw [hnx]; exact hk8) (by have := HM7.out.nk; omega) hkp8 (by rw [hnx]; exact HM7.out.wok.put _ fun m e => by cases e)
              clear HM7 hk8 hkp8 hk7 hnx hw0 HNX HNO HNA
              go_wp2_with fail
              go_roundg (l.length - (k + 1))
              case measure => omega
              case rel => exact ⟨k + 1, _, _, rfl, by omega, by go_num, HF.out⟩
            · have HALL := HNX.out rfl
              clear HNX HNO HNA HM7 hk7 i0 i1 i2 i3 i4 i5 i6 i7 i8
              go_wp2_with fail
              go_roundg (nr.length - (m + 1))
              case measure => omega
              case rel => exact ⟨m + 1, rfl, by omega, by go_num, rfl, HALL⟩
          · have hsome : ∃ v, worth K1 x = some v := by
              have h1 := HAL.out
              rw [List.take_of_length_le (by omega), HNA.out] at h1
              exact Option.isSome_iff_exists.1 h1
            obtain ⟨val, hval⟩ := hsome
            have hv32 := worth_lt HM7.out.wok hm hval
            have hre := reckoned_any x y c2 w7 hm (hok.reg x hmem) hk7 HM7.out.wok hval
            clear hk7
            go_upto_region 29 with (first | (go_at_call 40; refine hre.mono ?_; rintro e w9 ⟨rfl, hb9⟩))
            have hM9 := HM7.out.on hb9
            have HM9 : Hid _ := hM9
            obtain ⟨j0, j1, j2, j3, j4, j5, j6, j7, j8⟩ := irB_at hM9.box
            obtain ⟨w10, hput, hk10, hkp10, hz10⟩ := hM9.kno.put hnn hd.1 hd.2 hv32
            obtain ⟨g, rfl, hth, hF⟩ := hM9.over hm hval hk10 (by have := hM9.nk; omega) hkp10
            have HF : Hid _ := hF
            have hbox := (hkp10.block _ (lt_of_some hM9.box) hM9.pb).trans hM9.box
            have HBX : Hid _ := hbox
            clear hM9 hbox hk10 hkp10 hF HM7 HM9 i0 i1 i2 i3 i4 i5 i6 i7 i8
            go_upto_region 30 with fail
            obtain ⟨i0, i1, i2, i3, i4, i5, i6, i7, i8⟩ := irB_at HBX.out
            clear j0 j1 j2 j3 j4 j5 j6 j7 j8 hput
            go_wp2_with (first | (show wpList _ _ _ ({ dst := none, op := Op.store _ _ _, type := _, pos := _, after := _, guard := _ } :: _) _ _; (with_reducible refine wpl_store_ir (g := g) (o := k * 9) (d := x.d) (n := val) (x := .tmp 91) (y := .tmp 90) ?a1 ?a2 ?a3 ?a4 hth ?a5); (case a1 => rfl); (case a2 => rfl); (case a3 => simp [go_sem, Act.eval]); (case a4 => simp [go_sem, Act.eval])) | go_in)
            go_roundg (l.length - (k + 1))
            case measure => omega
            case rel => exact ⟨k + 1, _, _, rfl, by omega, by go_num, HF.out⟩
    · have HFin : Hid (kIr.rd wr (fun b => w.heap.size ≤ b) (.slice vx k vc) (foldL l)) := by
        have hq := HA.out.q
        rw [List.drop_of_length_le (by omega), foldF, List.append_nil] at hq
        rw [← hq]
        exact kIr.own_rd HA.out.out (fun j hj => hj.1) (fun g hg => (kIr.own_lt HA.out.out g hg).1)
      have HB : Hid _ := HA.out.below
      clear hAt HA
      go_wp2_with fail
      try rw [Exit.noGoto_ret]
      go_ret
      exact ⟨⟨_, rfl, HFin.out⟩, HB.out⟩
end Go.Proofs.Ytclajapdbphlbaa
