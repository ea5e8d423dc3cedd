/- CONTRACT of the reference's call, out of that of run with less fuel. -/
import Derived.Test.YtndmkfmpdnoliaaRMod
import Derived.Test.YtndmkfmpdnoliaaIValues
import Derived.Test.YtndmkfmpdnoliaaGBase
import Derived.Deep.QuietTactic
namespace Go.Proofs.Ytndmkfmpdnoliaa
open Go.ChangeShapes Go.WideShapes Go.ChangeAt Go.RowKit

/-- What run tells. -/
def RunPost (w : World) (R : Nat) (s : Value) (c : Co) (v : Value) (fin : Fr × St) (e : Ending) (w' : World) : Prop :=
  ∃ v', RM R s fin.2 v' w' ∧ Kept (TR R v) w w' ∧ Fresh w v v' ∧
    ((fin.2.wrong ≠ 0 ∧ e = .returned (.tuple #[.int .u32 0, .slice none 0 0])) ∨
      (fin.2.wrong = 0 ∧ ∃ C, e = .returned (.tuple #[.int .u32 (fin.1.result : Int), .slice (some ⟨C, 0, none⟩) (cellsN c.ps).toNat fin.1.cells.length]) ∧ v'.ownBlock ≠ some C ∧ C ≠ R ∧ w'.heap[C]? = some (.cells (wvs fin.1.cells) 26) ∧ fin.1.result < 4294967296 ∧ (∀ n ∈ fin.1.cells, n < 4294967296) ∧ cellsN c.ps ≤ fin.1.cells.length))
def RunOk (wP : World) (R : Nat) (a : Option Addr) (P : List Co) (cp F : Nat) : Prop :=
  ∀ (c : Co) (pa : Option Addr) (pc : Nat) (la : Option Addr) (lc : Nat) (aa : Option Addr) (ar : List Nat) (ac d : Nat) (st : St) (v : Value) (w : World), c ∈ P → CoIn wP (fun _ => True) c pa pc la lc → (ar.length : Int) = wordsN c.ps + cellsN c.ps → kWd.row w (fun _ => True) aa ar → ar.length ≤ ac → d ≤ 32 → st.left < F → st.wrong = 0 →
    RM R (.slice a P.length cp) st v w → Below wP.heap.size wP w → Calls Try.prog 32 #[.pointer (some ⟨R, 0, none⟩), coV c pa pc la lc, .slice aa ar.length ac, .int .i64 (d : Int)] w (RunPost w R (.slice a P.length cp) c v (runF P F d c (startF c ar) st))
theorem RunPost.out {w w' : World} {R : Nat} {s : Value} {c : Co} {v : Value} {fin : Fr × St} {e : Ending} (h : RunPost w R s c v fin e w') : ∃ (o : Nat) (y : Value), e = .returned (.tuple #[.int .u32 (o : Int), y]) ∧ o < 4294967296 ∧ ∃ v', RM R s fin.2 v' w' ∧ Kept (TR R v) w w' ∧ Fresh w v v' ∧ (fin.2.wrong = 0 → fin.1.result = o) := by
  obtain ⟨v', h1, h2, h3, ⟨h4, rfl⟩ | ⟨h4, C, rfl, h5, h6, h7, h8, _⟩⟩ := h
  · exact ⟨0, _, rfl, by decide, v', h1, h2, h3, fun h => absurd h h4⟩
  · exact ⟨_, _, rfl, h8, v', h1, h2, h3, fun _ => rfl⟩
def CallPost (w : World) (R : Nat) (s : Value) (x : Ir) (fr : Fr) (v : Value) (q : Fr × St) (e : Ending) (w' : World) : Prop :=
  ∃ (o : Nat) (v' : Value), e = .returned (.int .u32 (o : Int)) ∧ o < 4294967296 ∧ RM R s q.2 v' w' ∧ Kept (TR R v) w w' ∧ Fresh w v v' ∧ (q.2.wrong = 0 → q.1 = { fr with regs := fr.regs.set x.d.toNat o })
theorem call_wrong {w w' : World} {R : Nat} {s : Value} {x : Ir} {fr : Fr} {v : Value} {st : St} {n : Int} (hr : RM R s st v w') (hk : Kept (TR R v) w w') (hn : n ≠ 0) : CallPost w R s x fr v (fr, { st with wrong := n }) (.returned (.int .u32 0)) (w'.setCell ⟨R, 3, none⟩ (.int .i64 n)) :=
  ⟨0, v, rfl, by decide, hr.wrong n, hk.set_in _ _ _ (.inl rfl), fun _ e => .inl e, fun h => absurd h hn⟩
theorem at0_bd {l : List Nat} (h : ∀ n ∈ l, n < 4294967296) (i : Int) : at0 l i < 4294967296 := by
  unfold at0
  rw [List.getD_eq_getElem?_getD]
  cases hh : l[i.toNat]? with
  | none => decide
  | some z => exact h z (List.mem_of_getElem? hh)
theorem cells4r {w : World} {b : Nat} {x0 x1 x2 x3 : Value} {t : TypeId} (h : w.heap[b]? = some (.cells #[x0, x1, x2, x3] t)) : w.cell? ⟨b, 0, none⟩ = some x0 ∧ w.cell? ⟨b, 1, none⟩ = some x1 ∧ w.cell? ⟨b, 2, none⟩ = some x2 ∧ w.cell? ⟨b, 3, none⟩ = some x3 := by
  refine ⟨?_, ?_, ?_, ?_⟩ <;> simp [World.cell?, h]
theorem words_allR : ∀ (ps : List Ty), ps.all tyOk = true → cellsN ps = 0 → wordsN ps = ps.length
  | [], _, _ => rfl
  | t :: ps, h, hc => by
    simp only [List.all_cons, Bool.and_eq_true] at h
    have hb := (cellsN_bd ps h.2).1
    have ht := h.1
    simp only [tyOk, Bool.and_eq_true, decide_eq_true_eq] at ht
    rw [cellsN] at hc
    rw [wordsN, if_pos (by omega), words_allR ps h.2 (by omega), List.length_cons]
    omega
set_option maxRecDepth 100000 in
set_option maxHeartbeats 8000000 in
theorem rcall_any {wP : World} {R : Nat} {a : Option Addr} {P : List Co} {cp F : Nat} (hF : RunOk wP R a P cp F) (hrow : kCo.row wP (fun _ => True) a P) (hPl : P.length ≤ 1000000) (hR : ∀ c ∈ P, (rightR c).1 = 0) (_hwR : wP.heap.size ≤ R)
    (x : Ir) (ga : Option Addr) (gc : Nat) (G d : Nat) (st : St) (fr : Fr) (v : Value) (w : World) (hxa : kInt.row w (fun _ => True) ga x.args) (hx6 : x.args.length ≤ 6) (hin : ∀ i ∈ x.args, 0 ≤ i ∧ i < fr.regs.length) (hG : w.heap[G]? = some (.cells (wvs fr.regs) 26)) (hbd : ∀ n ∈ fr.regs, n < 4294967296)
    (hd : d ≤ 32) (hst : st.left < F) (hst0 : st.wrong = 0) (hrm : RM R (.slice a P.length cp) st v w) (hb : Below wP.heap.size wP w) :
    Calls Try.prog 57 #[.pointer (some ⟨R, 0, none⟩), irV x ga gc, .slice (some ⟨G, 0, none⟩) fr.regs.length fr.regs.length, .int .i64 (d : Int)] w (CallPost w R (.slice a P.length cp) x fr v (callR P (runF P F) d x fr st)) := by
  have hb1 := bl_alloc (Below.refl w.heap.size w) (irB x ga gc)
  have hRM1 : RM R (.slice a P.length cp) st v (w.alloc (irB x ga gc)) := hrm.keep (Kept.alloc w _ (fun _ => False)) (fun e => e) (fun _ _ e => e)
  have HX : Hid _ := heap_alloc_new w (irB x ga gc)
  have HG : Hid _ := (hb1.block G (lt_of_some hG)).trans hG
  have HXA : Hid (kInt.row (w.alloc (irB x ga gc)) (fun _ => True) ga x.args) := kInt.row_mono (by decide) hxa fun b _ hlt => ⟨trivial, hb1.block b hlt⟩
  have HBP : Hid (Below wP.heap.size wP (w.alloc (irB x ga gc))) := bl_then hb (bl_alloc (Below.refl w.heap.size w) (irB x ga gc))
  have HB1 : Hid _ := hb1
  obtain ⟨q, hq⟩ : ∃ q, callR P (runF P F) d x fr st = q := ⟨_, rfl⟩
  rw [hq]
  unfold irV
  go_enter Try.func57, Try.ntmps57
  go_upto_region 1 with fail
  generalize World.alloc w _ = w1 at hb1 hRM1 HX HG HXA HBP HB1 ⊢
  clear hb1
  obtain ⟨r0, r1, r2, r3⟩ := cells4r hRM1.r
  obtain ⟨q0, q1, q2, q3, q4, q5, q6, q7, q8⟩ := irB_at HX.out
  have hfq : ∀ m, Calls Try.prog 30 #[.slice a P.length cp, .string (bs x.name)] (w1.drewN m) fun e w' => e = .returned (.int .i64 (findI P x.name 0)) ∧ w' = w1.drewN m := fun m => refFind_any a P cp x.name (w1.drewN m) (kCo.row_mono (T := fun _ => True) (by decide) hrow fun b _ hlt => ⟨trivial, HBP.out.block b hlt⟩) hPl
  rcases look_find P x.name 0 with ⟨hl, hfi⟩ | ⟨j, hj, hl, hfi⟩
  · rw [callR_none hl] at hq
    rw [hfi] at hfq
    have HR : Hid _ := hRM1
    clear q0 q1 q2 q3 q4 q5 q6 q8
    go_quiet ((go_at_call 30; exact Calls.quiet_of_same (hfq _)))
    generalize hwq : World.drewN w1 _ = wq
    have hbq : Below w1.heap.size w1 wq := hwq ▸ drewN_below w1 _
    have hRq := HR.out.keep (Below.kept hbq (fun _ => False)) (fun e => e) (fun _ _ e => e)
    obtain ⟨r0, r1, r2, r3⟩ := cells4r hRq.r
    have hf3 := row_free hRq.r 3
    have HP : Hid (CallPost w R _ x fr v q (.returned (.int .u32 0)) _) := Lib.hid (hq ▸ call_wrong (x := x) (fr := fr) (n := 8) hRq ((Below.kept (bl_then HB1.out hbq) _)) (by decide))
    clear hbq hRq hwq r0 r1 r2 hfq HR HX HG HXA HBP HB1 hRM1
    go_wp2_with fail
    go_ret
    exact HP.out
  · rw [callR_some hl] at hq
    have hfi' : findI P x.name 0 = (j : Int) := by rw [hfi, Nat.zero_add]
    rw [hfi'] at hfq
    have HR : Hid _ := hRM1
    clear q0 q1 q2 q3 q4 q5 q6 q8
    go_quiet ((go_at_call 30; exact Calls.quiet_of_same (hfq _)))
    generalize hwq : World.drewN w1 _ = wq
    have hbq : Below w1.heap.size w1 wq := hwq ▸ drewN_below w1 _
    have hRq := HR.out.keep (Below.kept hbq (fun _ => False)) (fun e => e) (fun _ _ e => e)
    have HX2 : Hid _ := (hbq.block _ (lt_of_some HX.out)).trans HX.out
    have HG2 : Hid _ := (hbq.block _ (lt_of_some HG.out)).trans HG.out
    have HXA2 : Hid (kInt.row wq (fun _ => True) ga x.args) := kInt.row_mono (by decide) HXA.out fun b _ hlt => ⟨trivial, hbq.block b hlt⟩
    have HBP2 : Hid (Below wP.heap.size wP wq) := bl_then HBP.out hbq
    have HB2 : Hid _ := bl_then HB1.out hbq
    have HR2 : Hid _ := hRq
    obtain ⟨b, o, pa, pc, la, lc, rfl, _, hbb, hat, hci⟩ := co_at hrow j hj
    have hmem : P[j] ∈ P := List.getElem_mem hj
    have hrc := hR _ hmem
    obtain ⟨c, hc⟩ : ∃ c, P[j] = c := ⟨_, rfl⟩
    rw [hc] at hat hci hmem hrc hq
    have HAT : Hid _ := hat.keep (HBP2.out.block b hbb)
    obtain ⟨y0, y1, y2, y3, y4⟩ := HAT.out
    obtain ⟨h1, h2, h3, h4, h5, h6, h7, h8, h9⟩ := formB_parts (right_form hrc)
    have hWo := refWords_any wq pa c.ps pc (kTy.row_mono (T := fun _ => True) (by decide) hci.ps fun b _ hlt => ⟨trivial, HBP2.out.block b hlt⟩) h5 (by omega)
    obtain ⟨r0, r1, r2, r3⟩ := cells4r hRq.r
    have hj0 : (0 : Int) ≤ (j : Int) := by omega
    have hj1 : (j : Int) < (P.length : Int) := by omega
    have hjn : ¬ (j : Int) < 0 := by omega
    clear hbq hRq hwq hfq HR HX HG HXA HBP HB1 hRM1 hat hc r1 r2 r3 hfi hfi' q7 h1 h3 h4 h6 h7 h8 h9 y0 y2 y3 y4
    go_upto_region 6 with (first | (go_at_call 31; refine hWo.mono ?_; rintro e w3 ⟨rfl, hb3⟩))
    have hR3 := HR2.out.keep (Below.kept hb3 (fun _ => False)) (fun e => e) (fun _ _ e => e)
    have HX3 : Hid _ := (hb3.block _ (lt_of_some HX2.out)).trans HX2.out
    have HG3 : Hid _ := (hb3.block _ (lt_of_some HG2.out)).trans HG2.out
    have HXA3 : Hid (kInt.row w3 (fun _ => True) ga x.args) := kInt.row_mono (by decide) HXA2.out fun b _ hlt => ⟨trivial, hb3.block b hlt⟩
    have HBP3 : Hid (Below wP.heap.size wP w3) := bl_then HBP2.out hb3
    have HB3 : Hid _ := bl_then HB2.out hb3
    obtain ⟨y0, y1, y2, y3, y4⟩ := HAT.out.keep ((HBP3.out.block b hbb).trans (HBP2.out.block b hbb).symm)
    have HY : Hid _ := And.intro y0 (And.intro y1 (And.intro y2 (And.intro y3 y4)))
    have HR3 : Hid _ := hR3
    obtain ⟨r0, r1, r2, r3⟩ := cells4r hR3.r
    have hf3 := row_free hR3.r 3
    obtain ⟨q0, q1, q2, q3, q4, q5, q6, q7, q8⟩ := irB_at HX3.out
    have hcn := (cellsN_bd c.ps h5)
    have hwn := wordsN_bd c.ps
    have hwl := fun (h : cellsN c.ps = 0) => words_allR c.ps h5 h
    clear hb3 hWo HX2 HG2 HXA2 HBP2 HB2 HR2 HAT y0 y1 y2 y3 y4 q0 q1 q2 q3 q4 q5 q6 q7 r1 r2
    by_cases hw : c.ps.length ≠ x.args.length ∨ 0 < cellsN c.ps
    · rw [if_pos hw] at hq
      have HP : Hid (CallPost w R _ x fr v q (.returned (.int .u32 0)) _) := Lib.hid (hq ▸ call_wrong (x := x) (fr := fr) (n := 10) HR3.out (Below.kept HB3.out _) (by decide))
      by_cases hm : 0 < cellsN c.ps
      · by_cases hwx : wordsN c.ps = x.args.length
        · have e1 : (((wordsN c.ps : Nat) : Int) == (x.args.length : Int)) = true := by rw [hwx]; simp
          clear hwl hcn hwn hw hR3 HR3 HX3 HG3 HXA3 HBP3 HB3 HY
          go_wp2_with fail
          go_ret
          exact HP.out
        · have e1 : (((wordsN c.ps : Nat) : Int) == (x.args.length : Int)) = false := by rw [beq_eq_false_iff_ne]; omega
          clear hwl hcn hwn hw hR3 HR3 HX3 HG3 HXA3 HBP3 HB3 HY
          go_wp2_with fail
          go_ret
          exact HP.out
      · have h0 : cellsN c.ps = 0 := by omega
        have hwx : wordsN c.ps ≠ x.args.length := by rw [hwl h0]; omega
        have e1 : (((wordsN c.ps : Nat) : Int) == (x.args.length : Int)) = false := by rw [beq_eq_false_iff_ne]; omega
        clear hwl hcn hwn hw hR3 HR3 HX3 HG3 HXA3 HBP3 HB3 HY
        go_wp2_with fail
        go_ret
        exact HP.out
    rw [if_neg hw] at hq
    have h0 : cellsN c.ps = 0 := by omega
    have hwx : wordsN c.ps = x.args.length := by rw [hwl h0]; omega
    have e1 : (((wordsN c.ps : Nat) : Int) == (x.args.length : Int)) = true := by rw [hwx]; simp
    have e2 : ¬ 0 < cellsN c.ps := by omega
    clear hwl hcn hwn hw
    by_cases hd2 : d = 32
    · rw [if_pos hd2] at hq
      have e3 : ((d : Int) == 32) = true := by rw [hd2]; rfl
      have HP : Hid (CallPost w R _ x fr v q (.returned (.int .u32 0)) _) := Lib.hid (hq ▸ call_wrong (x := x) (fr := fr) (n := 19) HR3.out (Below.kept HB3.out _) (by decide))
      clear hR3 HR3 HX3 HG3 HXA3 HBP3 HB3 HY
      go_wp2_with fail
      go_ret
      exact HP.out
    rw [if_neg hd2] at hq
    have e3 : ((d : Int) == 32) = false := by rw [beq_eq_false_iff_ne]; omega
    have hlen6 := hx6
    have HQ : Hid _ := hq
    clear hq hR3 r0 r3 hf3
    have hGl := lt_of_some HG3.out
    have hXl := lt_of_some HX3.out
    go_upto_region 13 with fail
    go_wp2_with fail
    go_loopw [12, 13] (fun u i wr => ∃ k : Nat, k ≤ x.args.length ∧ i = .int .i64 k ∧ wr.ownsRow w3.heap.size 26 1 u k (((x.args.take k).map (at0 fr.regs)).map wv) ∧ Below w3.heap.size w3 wr) (fun _ i _ => x.args.length - (intOf i).toNat)
    case atStart => exact ⟨0, Nat.zero_le _, rfl, World.ownsRow_nil _ _ _ _, Below.refl _ _⟩
    case round =>
      obtain ⟨k, hk, rfl, hown, hbl⟩ := hrel
      obtain ⟨u5, rfl, hown⟩ : ∃ z, z = _ ∧ wr.ownsRow w3.heap.size 26 1 z k (((x.args.take k).map (at0 fr.regs)).map wv) := ⟨_, rfl, hown⟩
      have HO : Hid (wr.ownsRow w3.heap.size 26 1 u5 k (((x.args.take k).map (at0 fr.regs)).map wv)) := hown
      have HB : Hid (Below w3.heap.size w3 wr) := hbl
      obtain ⟨_, _, _, _, _, _, _, _, q8⟩ := irB_at ((hbl.block _ hXl).trans HX3.out)
      clear hown
      by_cases hlt : k < x.args.length
      · obtain ⟨b3, o3, rfl, _, hb3, h0'⟩ := int_at HXA3.out k hlt
        obtain ⟨p, hp⟩ : ∃ p : Nat, x.args[k] = p := ⟨x.args[k].toNat, by have := hin _ (List.getElem_mem hlt); omega⟩
        have hpl : p < fr.regs.length := by have := (hin _ (List.getElem_mem hlt)).2; omega
        have e0 := (hbl.cell (p := ⟨b3, o3 + k, none⟩) hb3).trans h0'
        have e5 := (hbl.cell (p := ⟨G, p, none⟩) hGl).trans (row_cell HG3.out hpl)
        have i0 : (0 : Int) ≤ (p : Int) := by omega
        have i1 : (p : Int) < (fr.regs.length : Int) := by omega
        have HV : Hid (((x.args.take (k + 1)).map (at0 fr.regs)).map wv = ((x.args.take k).map (at0 fr.regs)).map wv ++ [.int .u32 (fr.regs[p] : Int)]) := by show _ = _; rw [vals_take fr.regs x.args k hlt, hp, at0_lt hpl]; rfl
        rw [hp] at e0
        have hsw := hbl.size
        clear h0' hbl
        have hownA : (wr.alloc (.cells #[.int .u32 (fr.regs[p] : Int)] 26)).ownsRow w3.heap.size 26 1 u5 k (((x.args.take k).map (at0 fr.regs)).map wv) := own_kept HO.out (Kept.alloc wr _ (fun _ => False)) (fun _ _ e => e)
        have hsrcA := src_wd wr fr.regs[p]
        have hk0 : (0 : Int) ≤ (k : Int) := by omega
        have hk1 : (k : Int) < (x.args.length : Int) := by omega
        go_upto_region 15 with (first | (at_builtin; refine wpList_append_src wd_info rfl Try.underlying23 (by decide) _ rfl _ _ rfl w3.heap.size u5 k _ rfl hownA _ 1 [.int .u32 (fr.regs[p] : Int)] rfl hsrcA (by omega) (by simp; omega) ?_; intro y c2 w5 hown5 hgrow hat))
        have HO5 : Hid _ := hown5
        have HB5 : Hid (Below w3.heap.size w3 w5) := by
          have hk3 := Kept.of_grown hgrow
          refine Kept.to_below ((Below.kept (bl_alloc HB.out (.cells #[.int .u32 (fr.regs[p] : Int)] 26)) (fun i => w3.heap.size ≤ i)).trans (hk3.mono fun i _ e => ?_)) fun i hi => hi
          exact (World.ownsRow.lt HO.out i e).1
        clear hown5 hgrow hat hownA hsrcA
        go_wp2_with fail
        go_roundw
        case rel => exact ⟨k + 1, by omega, by go_num, by rw [HV.out]; exact HO5.out, HB5.out⟩
        case measure => simp [intOf]; omega
      · obtain rfl : k = x.args.length := by omega
        have hx : wr.ownsRow w3.heap.size 26 1 u5 x.args.length ((x.args.map (at0 fr.regs)).map wv) := by have := HO.out; rwa [List.take_length] at this
        have hbd2 : ∀ n ∈ x.args.map (at0 fr.regs), n < 4294967296 := fun n hn => by
          obtain ⟨i, hi, rfl⟩ := List.mem_map.1 hn
          exact at0_bd hbd i
        obtain ⟨ay, cy, ey, hrowA, hcA⟩ : kWd.rd wr (fun _ => True) u5 (x.args.map (at0 fr.regs)) := kWd.own_rd (t := 26) (S := fun b => w3.heap.size ≤ b) ⟨_, by rw [List.length_map]; exact hx, wd_lay _ hbd2⟩ (fun _ _ => trivial) fun g hg => trivial
        subst ey
        have hRr := HR3.out.keep (Below.kept hbl (fun _ => False)) (fun e => e) (fun _ _ e => e)
        have hru := hF c pa pc la lc ay (x.args.map (at0 fr.regs)) cy (d + 1) st v wr hmem hci (by rw [List.length_map, hwx, h0]; omega) hrowA hcA (by omega) hst hst0 hRr (bl_then HBP3.out hbl)
        have HKW : Hid (Kept (TR R v) w wr) := Below.kept (bl_then HB3.out hbl) _
        obtain ⟨r0, r1, r2, r3⟩ := cells4r hRr.r
        obtain ⟨y0, y1, y2, y3, y4⟩ := (CoAt.mk HY.out.1 HY.out.2.1 HY.out.2.2.1 HY.out.2.2.2.1 HY.out.2.2.2.2 : CoAt w3 b (o + j * 5) c pa pc la lc).keep (hbl.block b (by have := HBP3.out.size; omega))
        have hru2 := hru.mono fun e w' h => RunPost.out h
        unfold coV at hru2
        have hdd : ((d + 1 : Nat) : Int) = (d : Int) + 1 := by omega
        rw [hdd, List.length_map] at hru2
        have hd31 : d < 32 := by omega
        have HQ2 : Hid _ := HQ.out
        generalize runF P F (d + 1) c (startF c (List.map (at0 fr.regs) x.args)) st = fin at HQ2 hru2
        clear hx hbd2 hrowA hRr hbl HO HB r1 r2 r3 hru
        go_upto_region 18 with (first | (go_at_call 32; refine hru2.mono ?_; rintro e w9 ⟨o9, y9, rfl, ho9, v9, hr9, hk9, hf9, hz9⟩))
        have HP : Hid (CallPost w R (.slice (some ⟨b, o, none⟩) P.length cp) x fr v q (.returned (.int .u32 (o9 : Int))) w9) := Lib.hid (by rw [← HQ2.out]; exact ⟨o9, v9, rfl, ho9, hr9, HKW.out.trans (hk9.mono fun _ _ e => e), fun k e => (hf9 k e).imp_right fun h => Nat.le_trans HKW.out.size h, fun h => by rw [hz9 h]⟩)
        clear hru2 hr9 hk9 hf9 hz9 HKW HQ2
        go_wp2_with fail
        go_ret
        exact HP.out
end Go.Proofs.Ytndmkfmpdnoliaa
