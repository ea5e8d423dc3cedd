/- CONTRACT of freed. -/
import Derived.Test.YtndmkfmpdnoliaaDBack
import Derived.Test.YtndmkfmpdnoliaaDPlaces
import Derived.Test.YtndmkfmpdnoliaaGKit
namespace Go.Proofs.Ytndmkfmpdnoliaa
open Go.ChangeShapes Go.WideShapes Go.ChangeAt Go.RowKit

/-- What is asked of instructions. -/
structure FreeOk (l : List Ir) : Prop where
  back : BackOk l
  jump : ∀ x ∈ l, x.kind = 8 ∨ x.kind = 9 → 0 ≤ x.c ∧ x.c < l.length
theorem make_full (w : World) (n : Nat) (hn : n ≤ 1000000) : ∃ cs : Array Value, (Instr.makeSlice 37 (.int .i64 (n : Int)) (.int .i64 (n : Int))).run Try.prog w = .ok (.slice (some ⟨w.heap.size, 0, none⟩) n n) (w.alloc (.cells cs 50)) ∧ cs.size = n * 9 := by
  obtain ⟨i0, hi0, hz0, hz1, hz2⟩ := info_parts ir_info
  have hr := run_make (P := Try.prog) w 37 50 i0 _ Try.underlying37 hi0 hz0 .i64 .i64 (n : Int) (n : Int) (by omega) (by omega) (by rw [hz2]; omega) (by omega)
  simp only [Int.toNat_natCast] at hr
  exact ⟨_, hr, by rw [size_madeCells, hz1]⟩
theorem wpl_store_any {ops : Array Oper} {rest : List Oper} {op : Oper} {a : Act} {w : World} {Q : Exit → Act → World → Prop} (hgd : op.guard = none) (x y : Operand) (ho : op.op = .store 50 x y) (g o : Nat) (z : Ir) (ya : Option Addr) (c2 : Nat) (hx : a.eval x = .pointer (some ⟨g, o, none⟩))
    (hy : a.eval y = .agg #[.int .i64 z.kind, .int .i64 z.op, .int .i64 z.d, .int .i64 z.a, .int .i64 z.b, .int .i64 z.c, .int .u32 (z.n : Int), .string (bs z.name), .slice ya z.args.length c2]) (ht : w.there g o 9) (h : wpList Try.prog ops Q rest (a.put op.dst undef) (w.setCells g o (irCells z ya c2))) : wpList Try.prog ops Q (op :: rest) a w :=
  wpList_store_mid hgd 50 x y ho g o #[.int .i64 z.kind, .int .i64 z.op, .int .i64 z.d, .int .i64 z.a, .int .i64 z.b, .int .i64 z.c, .int .u32 (z.n : Int), .string (bs z.name), .slice ya z.args.length c2] hx hy ht ir_size (by simp [Value.oneCell']) h
/-- How far freed has come: k instructions have been gone through. -/
structure FreeAt (w : World) (l : List Ir) (Bd Bo k : Nat) (a5 : Option Addr) (wr : World) : Prop where
  dead : wr.heap[Bd]? = some (.cells (bvs (deadL l)) 4)
  tos : kInt.row wr (fun j => j ≠ Bo) a5 (plL (deadL l))
  out : ∃ cs : Array Value, wr.heap[Bo]? = some (.cells cs 50) ∧ cs.size = l.length * 9 ∧ kIr.lay wr (fun j => w.heap.size ≤ j ∧ j ≠ Bo) (cs.toList.take (live (deadL l) k * 9)) ((freeL l).take (live (deadL l) k))
  below : Below w.heap.size w wr
  base : w.heap.size ≤ Bo
  apart : Bd ≠ Bo
theorem FreeAt.on {w wr w2 : World} {l : List Ir} {Bd Bo k : Nat} {a5 : Option Addr} (h : FreeAt w l Bd Bo k a5 wr) (hb : Below wr.heap.size wr w2) : FreeAt w l Bd Bo k a5 w2 := by
  obtain ⟨cs, h1, h2, h3⟩ := h.out
  exact ⟨(hb.block _ (lt_of_some h.dead)).trans h.dead, kInt.row_mono (by decide) h.tos fun j hj hlt => ⟨hj, hb.block j hlt⟩, ⟨cs, (hb.block _ (lt_of_some h1)).trans h1, h2, kIr.lay_mono h3 fun j hj hlt => ⟨hj, hb.block j hlt⟩⟩, bl_then h.below hb, h.base, h.apart⟩
theorem FreeAt.skip {w wr : World} {l : List Ir} {Bd Bo k : Nat} {a5 : Option Addr} (h : FreeAt w l Bd Bo k a5 wr) (hl : live (deadL l) (k + 1) = live (deadL l) k) : FreeAt w l Bd Bo (k + 1) a5 wr := by
  obtain ⟨h1, h2, h3, h4, h5, h6⟩ := h
  rw [← hl] at h3
  exact ⟨h1, h2, h3, h4, h5, h6⟩
/-- One more instruction is put where it belongs. -/
theorem FreeAt.put {w wr : World} {l : List Ir} {Bd Bo k m : Nat} {a5 y : Option Addr} {c2 : Nat} {z : Ir} (h : FreeAt w l Bd Bo k a5 wr) (hm : live (deadL l) k = m) (hl : live (deadL l) (k + 1) = m + 1) (hml : m < l.length) (hz : (freeL l)[m]? = some z) (hn : z.n < 4294967296) (hc : z.args.length ≤ c2) (hr : kInt.row wr (fun j => w.heap.size ≤ j ∧ j ≠ Bo) y z.args) :
    wr.there Bo (m * 9) 9 ∧ FreeAt w l Bd Bo (k + 1) a5 (wr.setCells Bo (m * 9) (irCells z y c2)) := by
  obtain ⟨h1, h2, ⟨cs, o1, o2, o3⟩, h4, h5, h6⟩ := h
  rw [hm] at o3
  have hroom : m * 9 + 9 ≤ cs.size := by rw [o2]; omega
  have h9 : (irCells z y c2).length = 9 := rfl
  obtain ⟨cur', q1, q2, q3⟩ := setCells_block (irCells z y c2) (m * 9) o1 (by rw [h9]; exact hroom)
  have hk := setCells_kept Bo (irCells z y c2) (m * 9) wr
  refine ⟨fun j hj => ⟨?_, ?_⟩, (setCells_other h6 _ _ _).trans h1, kInt.row_mono (by decide) h2 fun j hj hlt => ⟨hj, setCells_other hj _ _ _⟩, ⟨cur', q1, by rw [q2, o2], ?_⟩, h4.trans (hk.below h4.size fun j e => by rw [e]; exact h5), h5, h6⟩
  · simp [World.cell?, o1]; omega
  · simp [World.frozen?, o1]
  · rw [hl, List.take_add_one, hz]
    have e : cur'.toList.take ((m + 1) * 9) = cs.toList.take (m * 9) ++ irCells z y c2 := by
      have hlen : (cs.toList.take (m * 9)).length = m * 9 := by rw [List.length_take, Array.length_toList]; omega
      rw [q3]
      exact List.take_left' (by rw [List.length_append, hlen, h9]; omega)
    rw [e]
    exact kIr.lay_snoc ⟨y, c2, rfl, hc, hn, kInt.row_mono (by decide) hr fun j hj hlt => ⟨hj, setCells_other hj.2 _ _ _⟩⟩ (kIr.lay_mono o3 fun j hj hlt => ⟨hj, setCells_other hj.2 _ _ _⟩)
set_option maxRecDepth 100000 in
set_option maxHeartbeats 4000000 in
theorem freed_any {S : Nat → Prop} (w : World) (a : Option Addr) (l : List Ir) (c : Nat) (h : kIr.row w S a l) (hok : FreeOk l) :
    Calls Try.prog 34 #[.slice a l.length c] w fun e w' => (∃ v, e = .returned v ∧ kIr.rd w' (fun b => w.heap.size ≤ b) v (freeL l)) ∧ Below w.heap.size w w' := by
  have hlen := hok.back.len
  have hbk := backwards_any w a l c h hok.back
  have hdl := deadL_len l
  go_enter Try.func34, Try.ntmps34
  go_upto_region 2 with (first | (go_at_call 36; refine hbk.mono ?_; rintro e w2 ⟨rfl, hd2, _, hb2⟩))
  have hpl := places_any (deadL l) (w.heap.size + 2) l.length w2 hd2 (by omega)
  rw [hdl] at hpl
  clear hbk
  go_upto_region 3 with (first | (go_at_call 58; refine hpl.mono ?_; rintro e w3 ⟨⟨v3, rfl, a5, c5, rfl, hto, hc5⟩, hb3⟩))
  obtain ⟨cs, hmk, hcs⟩ := make_full w3 l.length (by omega)
  have hz2 := lt_of_some hd2
  have hF0 : FreeAt w l (w.heap.size + 2) w3.heap.size 0 a5 (w3.alloc (.cells cs 50)) := by
    have hz3 := hb3.size
    refine ⟨(heap_alloc_old _ _ (by omega)).trans ((hb3.block _ hz2).trans hd2), kInt.row_mono (by decide) hto fun j _ hlt => ⟨by omega, heap_alloc_old _ _ hlt⟩, ⟨cs, heap_alloc_new _ _, hcs, ?_⟩, bl_alloc (bl_then hb2 hb3) _, by have := hb2.size; omega, by omega⟩
    rw [live_zero]
    simp only [Nat.zero_mul, List.take_zero]
    rfl
  have HF0 : Hid _ := hF0
  have hpll : (plL (deadL l)).length = l.length := by rw [plL_len, hdl]
  clear hpl hb2 hd2 hto hb3 hF0 hcs
  go_upto_region 5 with fail
  rw [hpll]
  generalize w3.alloc (.cells cs 50) = w4 at HF0 ⊢
  generalize w3.heap.size = Bo at HF0 ⊢
  clear hmk hz2
  generalize w.heap.size + 2 = Bd at HF0 ⊢
  go_loopw [7, 22] (fun n i wr => ∃ k : Nat, k ≤ l.length ∧ i = .int .i64 k ∧ n = .int .i64 (live (deadL l) k : Nat) ∧ FreeAt w l Bd Bo k a5 wr) (fun _ i _ => l.length - (intOf i).toNat)
  case atStart => exact ⟨0, Nat.zero_le _, rfl, by rw [live_zero]; rfl, HF0.out⟩
  case round =>
    obtain ⟨k, hk, rfl, rfl, hAt⟩ := hrel
    have HA : Hid _ := hAt
    by_cases hlt : k < l.length
    · obtain ⟨b2, o2, ga, gc, rfl, hS, hb2, hia, hgc, hn, hrow⟩ := ir_at h k hlt
      obtain ⟨e0, e1, e2, e3, e4, e5, e6, e7, e8⟩ := hia.keep (hAt.below.block b2 hb2)
      have hmem : l[k] ∈ l := List.getElem_mem hlt
      have hde := brow_cell hAt.dead (k := k) (by omega)
      have HR : Hid (kInt.row wr S ga l[k].args) := kInt.row_mono (by decide) hrow fun j hj hl2 => ⟨hj, hAt.below.block j hl2⟩
      have HLV : Hid _ := live_succ (deadL l) k (by omega)
      have HDG : Hid _ := deadL_get l k hlt
      have HFA : Hid (deadX (rdL (l.drop (k + 1))) l[k] = false → (freeL l)[live (deadL l) k]? = some (jmpX (live (deadL l)) l[k])) := fun hd => free_at l k hlt hd
      have hml : live (deadL l) k ≤ k := live_le_n _ _
      have hjk := hok.jump l[k] hmem
      have hak := hok.back.args l[k] hmem
      have hbo := hAt.base
      have hbd := lt_of_some hAt.dead
      have hwr := hAt.below.size
      generalize deadX (rdL (l.drop (k + 1))) l[k] = dx at HDG HFA
      generalize (deadL l)[k] = dd at hde HLV HDG
      generalize l[k] = x at e0 e1 e2 e3 e4 e5 e6 e7 e8 hgc hn HR HFA hjk hak
      clear hia hrow hAt hmem
      have hk0 : (0 : Int) ≤ (k : Int) := by omega
      have hk1 : (k : Int) < (l.length : Int) := by omega
      cases dd
      · have hdx : dx = false := by have := HDG.out; exact this.symm
        have HX : Hid _ := HFA.out hdx
        have HL1 : Hid (live (deadL l) (k + 1) = live (deadL l) k + 1) := HLV.out
        have hb1 := bl_alloc (Below.refl wr.heap.size wr) (irB x ga gc)
        have hbx := heap_alloc_new wr (irB x ga gc)
        have hcl := cloneI_any (wr.alloc (irB x ga gc)) ga x.args gc (kInt.row_mono (T := S) (by decide) HR.out fun j hj hl2 => ⟨hj, hb1.block j hl2⟩) hak
        have hn2 : wr.heap.size < (wr.alloc (irB x ga gc)).heap.size := by simp
        clear hdx HLV HDG HFA
        go_upto_region 9 with (first | (go_at_call 59; refine hcl.mono ?_; rintro e w5 ⟨⟨v5, rfl, y, c2, rfl, hry, hcy⟩, hb5⟩; have hB5 := (hb5.block _ hn2).trans hbx; obtain ⟨i0, i1, i2, i3, i4, i5, i6, i7, i8⟩ := irB_at hB5; have hf5 := brow_free hB5))
        have hB6 := setCell_at (o := 8) (v := .slice y x.args.length c2) hB5
        have hbl6 := bl_set (bl_then hb1 hb5) wr.heap.size 8 (.slice y x.args.length c2) (Nat.le_refl _)
        have hry6 : kInt.row (w5.setCell ⟨wr.heap.size, 8, none⟩ (.slice y x.args.length c2)) (fun j => wr.heap.size < j) y x.args := kInt.row_mono (by decide) hry fun j hj _ => by
          simp only [World.size_alloc] at hj
          exact ⟨by omega, setCell_other (by omega)⟩
        generalize w5.setCell ⟨wr.heap.size, 8, none⟩ (.slice y x.args.length c2) = w6 at hB6 hbl6 hry6 ⊢
        have hB6' : w6.heap[wr.heap.size]? = some (irB x y c2) := hB6
        have HA6 := HA.out.on hbl6
        obtain ⟨q0, q1, q2, q3, q4, q5, q6, q7, q8⟩ := irB_at hB6'
        have hf6 := brow_free hB6'
        have hpo : wr.heap.size ≠ Bo := by have := lt_of_some HA.out.out.choose_spec.1; omega
        have hpd : wr.heap.size ≠ Bd := by omega
        have hpb : w.heap.size ≤ wr.heap.size := hwr
        clear i0 i1 i2 i3 i4 i5 i6 i7 i8 hf5 hB5 hb5 hry hcl hbx hb1 hB6 hn2 e0 e1 e2 e3 e4 e5 e6 e7 e8 hde HR HF0
        have hpo2 : Bo < wr.heap.size := lt_of_some HA.out.out.choose_spec.1
        have HP : Hid (∀ (w7 : World) (z : Ir), Below wr.heap.size wr w7 → kInt.row w7 (fun j => wr.heap.size < j) y z.args → z.n < 4294967296 → z.args.length ≤ c2 → (freeL l)[live (deadL l) k]? = some z → w7.there Bo (live (deadL l) k * 9) 9 ∧ FreeAt w l Bd Bo (k + 1) a5 (w7.setCells Bo (live (deadL l) k * 9) (irCells z y c2))) := fun w7 z h1 h2 h3 h4 h5 =>
          (HA.out.on h1).put rfl HL1.out (by omega) h5 h3 h4 (kInt.row_mono (by decide) h2 fun j hj _ => ⟨⟨by omega, by omega⟩, rfl⟩)
        have HC6 : Hid _ := hbl6
        have HR6 : Hid _ := hry6
        have HB6 : Hid _ := hB6'
        clear hbl6 hry6 hB6'
        by_cases hj : x.kind = 8 ∨ x.kind = 9
        case' pos =>
          obtain ⟨j0, j1⟩ := hjk hj
          obtain ⟨cx, hcx⟩ : ∃ cx : Nat, x.c = cx := ⟨x.c.toNat, by omega⟩
          obtain ⟨bt, ot, rfl, hTo, hbt, hct⟩ := int_at HA6.tos cx (by rw [plL_len, hdl]; omega)
          rw [plL_get _ cx (by omega)] at hct
          have hB7 : (w6.setCell ⟨wr.heap.size, 5, none⟩ (.int .i64 ((live (deadL l) cx : Nat) : Int))).heap[wr.heap.size]? = some (irB (jmpX (live (deadL l)) x) y c2) := by
            rw [setCell_at HB6.out]
            unfold jmpX
            rw [if_pos hj, hcx]
            rfl
          have hZ := jmpX_same (live (deadL l)) x
          have hR7 : kInt.row (w6.setCell ⟨wr.heap.size, 5, none⟩ (.int .i64 ((live (deadL l) cx : Nat) : Int))) (fun j => wr.heap.size < j) y (jmpX (live (deadL l)) x).args := by
            rw [hZ.2.2.2.2.2.2.2]
            exact kInt.row_mono (by decide) HR6.out fun j hj _ => ⟨hj, setCell_other (by omega)⟩
          have hput := HP.out _ (jmpX (live (deadL l)) x) (bl_set HC6.out wr.heap.size 5 (.int .i64 ((live (deadL l) cx : Nat) : Int)) (Nat.le_refl _)) hR7 (by rw [hZ.2.2.2.2.2.1]; exact hn) (by rw [hZ.2.2.2.2.2.2.2]; exact hcy) HX.out
          have HPU : Hid _ := hput
          have HB7 : Hid _ := hB7
          rw [hcx] at q5
          have hc0 : (0 : Int) ≤ (cx : Int) := by omega
          have hc1 : (cx : Int) < (l.length : Int) := by omega
          have hcl : (cx : Int) < ((plL (deadL l)).length : Int) := by rw [plL_len, hdl]; omega
          clear hput hB7 hR7 hZ HA6
          have hk89 : x.kind = 8 ∨ (x.kind == 8) = false ∧ x.kind = 9 := by
            rcases hj with e | e
            · exact .inl e
            · exact .inr ⟨by rw [e]; rfl, e⟩
          clear hj hjk
          rcases hk89 with h8 | ⟨g8, h9⟩
          all_goals
            go_upto_region 11 with fail
            generalize w6.setCell ⟨wr.heap.size, 5, none⟩ (.int .i64 ((live (deadL l) cx : Nat) : Int)) = w7 at HPU HB7 ⊢
            generalize jmpX (live (deadL l)) x = z at HPU HB7 HX
          all_goals clear hct q0 q1 q2 q3 q4 q5 q6 q7 q8 hf6 hTo hbt
        case' neg =>
          have hZ := jmpX_not (live (deadL l)) hj
          rw [hZ] at HX
          have HPU : Hid _ := HP.out w6 x HC6.out HR6.out hn hcy HX.out
          have HB7 : Hid _ := HB6.out
          have g8 : (x.kind == 8) = false := by simpa using fun e => hj (.inl e)
          have g9 : (x.kind == 9) = false := by simpa using fun e => hj (.inr e)
          clear hj hjk hZ HA6
          go_upto_region 11 with fail
          obtain ⟨w7, hw7⟩ : ∃ w7, w7 = w6 := ⟨_, rfl⟩
          obtain ⟨z, hz⟩ : ∃ z, z = x := ⟨_, rfl⟩
          rw [← hw7] at HPU HB7 ⊢
          rw [← hz] at HPU HB7 HX
          clear hw7 hz q0 q1 q2 q3 q4 q5 q6 q7 q8 hf6 g8 g9
        all_goals
          obtain ⟨hth, hF⟩ := HPU.out
          have HF : Hid _ := hF
          obtain ⟨q0, q1, q2, q3, q4, q5, q6, q7, q8⟩ := irB_at HB7.out
          have hm0 : (0 : Int) ≤ ((live (deadL l) k : Nat) : Int) := by omega
          have hm1 : ((live (deadL l) k : Nat) : Int) < (l.length : Int) := by omega
          clear hF HPU HX HP HC6 HR6 HB6
          generalize live (deadL l) k = m at hth HF HL1 hm0 hm1 hml ⊢
          go_wp2_with (first | (show wpList _ _ _ ({ dst := none, op := Op.store _ _ _, type := _, pos := _, after := _, guard := _ } :: _) _ _; (with_reducible refine wpl_store_any (g := Bo) (o := m * 9) (z := z) (ya := y) (c2 := c2) (x := .tmp 52) (y := .tmp 51) ?_ ?_ ?_ ?_ hth ?_); (next => rfl); (next => rfl); (next => simp [go_sem, Act.eval]); (next => simp [go_sem, Act.eval])) | go_in)
          go_roundw
          case rel => exact ⟨k + 1, by omega, by go_num, by rw [HL1.out]; go_num, HF.out⟩
          case measure => simp [intOf]; omega
      · have HN : Hid _ := (HA.out.skip (by rw [HLV.out]; rfl)).on (bl_alloc (Below.refl wr.heap.size wr) (irB x ga gc))
        have HL1 : Hid (live (deadL l) (k + 1) = live (deadL l) k) := by show _ = _; rw [HLV.out]; rfl
        go_wp2_with fail
        go_roundw
        case rel => exact ⟨k + 1, by omega, by go_num, by rw [HL1.out], HN.out⟩
        case measure => simp [intOf]; omega
    · have hkl : k = l.length := by omega
      obtain ⟨cs, o1, o2, o3⟩ := HA.out.out
      have hFL := free_len l
      have hbo := HA.out.base
      have hbl := HA.out.below
      have hml : live (deadL l) k ≤ l.length := by rw [hkl]; exact live_le_n _ _
      have e1 : live (deadL l) k = (freeL l).length := by rw [hkl, hFL]
      rw [e1, List.take_length] at o3
      have hrow : kIr.row wr (fun j => w.heap.size ≤ j) (some ⟨Bo, 0, none⟩) (freeL l) := kIr.lay_row (S := fun j => w.heap.size ≤ j ∧ j ≠ Bo) (fun j hj => hj.1) Bo hbo 0 o3 fun j u hj => by
        have hj2 : cs.toList[j]? = some u := by
          rw [List.getElem?_take] at hj
          split at hj
          · exact hj
          · cases hj
        simp only [Nat.zero_add, World.cell?, o1]
        simpa using hj2
      have HRD : Hid (kIr.rd wr (fun j => w.heap.size ≤ j) (.slice (some ⟨Bo, 0, none⟩) (live (deadL l) k) (live (deadL l) k)) (freeL l)) := ⟨some ⟨Bo, 0, none⟩, live (deadL l) k, by rw [e1], hrow, by rw [e1]; exact Nat.le_refl _⟩
      have HBL : Hid _ := hbl
      clear HF0 HA o1 o2 o3 hrow e1 hFL hbl
      generalize live (deadL l) k = m at HRD hml ⊢
      have hm0 : (0 : Int) ≤ (m : Int) := by omega
      have hm1 : (m : Int) ≤ (l.length : Int) := by omega
      go_wp2_with fail
      go_ret
      exact ⟨⟨_, rfl, HRD.out⟩, HBL.out⟩
end Go.Proofs.Ytndmkfmpdnoliaa
