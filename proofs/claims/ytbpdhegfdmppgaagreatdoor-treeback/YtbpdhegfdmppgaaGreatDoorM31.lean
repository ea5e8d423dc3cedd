/- Texts of this proof, put together: TExprs, TArgs. -/
import Derived.Test.YtbpdhegfdmppgaaGreatDoorM8
import Derived.Test.YtbpdhegfdmppgaaGreatDoorM10

/- CONTRACTS of the methods expr and exprs, where readExpr's holds of smaller nodes. -/
namespace Go.Proofs.YtbpdhegfdmppgaaGreatDoor
open Go.ChangeShapes Go.WideShapes Go.ChangeAt Go.RowKit

/-- readExpr's contract, at nodes up to a size. -/
def ExprN (n : Nat) : Prop := ∀ (B : Nat) (w : World) (il : Bool) (wd : List UInt8) (ks : List Nd) (q : Int) (a : Option Addr) (c : Nat), Glob B w → (Nd.mk il wd ks q).wok → Row (fun b => b < B) w a ks → ks.length ≤ c → (Nd.mk il wd ks q).sz ≤ n →
  Calls Tryz.prog 115 #[.agg #[.bool il, .string (bs wd), .slice a ks.length c, .int .i64 q]] w (Gives ExV w (rdE (.mk il wd ks q)))

theorem one_below (w : World) (o : Obj) : Below w.heap.size w (w.alloc o) := (Below.refl _ _).alloc (Nat.le_refl _) _

set_option maxHeartbeats 1000000 in
theorem expr_rs {m B : Nat} {w : World} {r : Nat} {l : List Nd} {p : Int} (hE : ExprN m) (h : Rs B w r l p) (hs : szL l ≤ m) :
    Calls Tryz.prog 98 #[.pointer (some ⟨r, 0, none⟩)] w (Takes ExV B w r p (rdBy rdE p l)) := by
  have hlt := h.lt
  have hB := h.own
  have h2 : Rs B (w.alloc (.cells #[.int .i64 0, .int .u32 0, .int .i64 0, .string ⟨#[]⟩, .slice none 0 0] 45)) r l p := h.below (one_below w _)
  cases l with
  | nil =>
    go_enter Tryz.func98, Tryz.ntmps98
    go_wp2_with (go_at_call 56; refine (next_bad h2).mono ?_; rintro e w1 ⟨rfl, hb1⟩)
    exact ⟨rfl, .ofBad (rdBy_nil _ _) ((Kept.alloc w _ _).on hb1)⟩
  | cons nd l =>
    obtain ⟨il, wd, ks, q⟩ := nd
    have hwok := h.wok.1
    have hsz : (Nd.mk il wd ks q).sz ≤ m := by simp only [szL] at hs; omega
    cases hr : rdE (.mk il wd ks q) with
    | bad x y =>
      have HR : Hid (rdE (.mk il wd ks q) = .bad x y) := hr
      clear hr
      go_enter Tryz.func98, Tryz.ntmps98
      go_wp2_with (first | (go_at_call 56; refine (next_ok il wd ks q h2).mono ?_; rintro e w1 ⟨a, c, rfl, hrow, hcap, hR1, hK1⟩) | (go_at_call 115; refine (hE B _ il wd ks q a c hR1.glob hwok hrow hcap hsz).mono ?_; rintro e w2 hG; obtain rfl := hG.bad _ _ HR.out))
      exact ⟨rfl, .ofBad (rdBy_bad _ _ HR.out) (((Kept.alloc w _ _).trans hK1).on hG.below)⟩
    | ok x =>
      obtain ⟨kind, n, op, name, xl⟩ := x
      have HR : Hid (rdE (.mk il wd ks q) = .ok (.mk kind n op name xl)) := hr
      clear hr
      go_enter Tryz.func98, Tryz.ntmps98
      go_wp2_with (first | (go_at_call 56; refine (next_ok il wd ks q h2).mono ?_; rintro e w1 ⟨a, c, rfl, hrow, hcap, hR1, hK1⟩) | (go_at_call 115; refine (hE B _ il wd ks q a c hR1.glob hwok hrow hcap hsz).mono ?_; rintro e w2 hG; obtain ⟨v, rfl, va, vc, rfl, hvc, hvr⟩ := hG.ok _ HR.out; have x1 := keep_box (heap_alloc_new w _) hK1 (by omega); have x2 := below_keep x1 hG.below; obtain ⟨y0, y1, y2, y3, y4, yz, ys⟩ := box5 x2))
      obtain ⟨hEn, hKw, hKb⟩ := set5_all (M := fun k => k = r) (.int .i64 kind) (.int .u32 n) (.int .i64 op) (.string (bs name)) (.slice va xl.length vc) x2 (((Kept.alloc w _ _).trans hK1).on hG.below) (Nat.le_refl _)
      have hw1 : w.heap.size < w1.heap.size := lt_of_some x1
      generalize World.setCell _ _ _ = W at hEn hKw hKb ⊢
      refine bodyPost_ret_by (results5 Tryz.results98 rfl hEn) rfl ?_
      exact .ofOk (rdBy_ok _ _ HR.out) hKw ((hR1.below hG.below).keep hKb (fun k e => by omega) (by omega)) ⟨va, vc, rfl, hvc, exR_mono (fun b hb hl => ⟨by omega, hKb.block b hl (by omega)⟩) hvr⟩

theorem rdN_succ (p : Int) (j : Nat) (l : List Nd) : rdN p (j + 1) l = (rdBy rdE p l).bind fun y => (rdN p j y.2).bind fun x => .ok (y.1 :: x.1, x.2) := by
  cases l with
  | nil => rw [rdN]; rfl
  | cons n l =>
    rw [rdN]
    show _ = (((rdE n).bind _).bind _)
    cases rdE n <;> rfl
theorem rdN_zero (p : Int) (l : List Nd) : rdN p 0 l = .ok ([], l) := by rw [rdN]

theorem exprs_info : (Tryz.prog.info? 45).map (fun i => (i.zero, i.size, i.bytes)) = some (some (.agg #[.int .i64 0, .int .u32 0, .int .i64 0, .string ⟨#[]⟩, .slice none 0 0]), 5, 64) := by kernel_rfl

theorem rdBy_sz {α : Type} {f : Nd → Res α} {p : Int} {l l' : List Nd} {x : α} (h : rdBy f p l = .ok (x, l')) : szL l' ≤ szL l ∧ ∃ n, l = n :: l' ∧ f n = .ok x := by
  cases l with
  | nil => cases h
  | cons n l =>
    have h' : (f n).bind (fun y => Res.ok (y, l)) = .ok (x, l') := h
    cases hf : f n with
    | bad c q => rw [hf] at h'; cases h'
    | ok y =>
      rw [hf] at h'
      cases h'
      exact ⟨by simp only [szL]; omega, n, rfl, hf⟩

set_option maxHeartbeats 3200000 in
theorem exprs_rs {m B : Nat} {w : World} {r : Nat} {l : List Nd} {p : Int} (cnt : Nat) (hE : ExprN m) (hcnt : cnt ≤ 100) (h : Rs B w r l p) (hs : szL l ≤ m) :
    Calls Tryz.prog 131 #[.pointer (some ⟨r, 0, none⟩), .int .i64 cnt] w (Takes kEx.rd B w r p (rdN p cnt l)) := by
  have hlt := h.lt
  have hB := h.own
  obtain ⟨i0, hi0, hz0, hz1, hz2⟩ := info_parts exprs_info
  go_enter Tryz.func131, Tryz.ntmps131
  go_wp2_with fail
  go_loopw [5, 7] (fun v i wr => ∃ (acc : List Ex) (l' : List Nd), acc.length ≤ cnt ∧ i = .int .i64 acc.length ∧ kEx.own 45 wr (Own w.heap.size v) w.heap.size v acc ∧ Kept (fun k => k = r) w wr ∧ Rs B wr r l' p ∧ szL l' ≤ m ∧
    rdN p cnt l = (rdN p (cnt - acc.length) l').bind fun x => .ok (acc ++ x.1, x.2)) (fun _ i _ => cnt - (intOf i).toNat)
  case atStart => exact ⟨[], l, Nat.zero_le _, rfl, kEx.own_none _ _ _ _, Kept.refl _ _, h, hs, by rw [List.length_nil, Nat.sub_zero]; cases rdN p cnt l <;> rfl⟩
  case round =>
    obtain ⟨acc, l', hk, rfl, hown, hKr, hRs, hsz, hsp⟩ := hrel
    have HS : Hid (rdN p cnt l = (rdN p (cnt - acc.length) l').bind fun x => .ok (acc ++ x.1, x.2)) := hsp
    clear hsp
    obtain ⟨vx, vc, rfl⟩ := kEx.own_form hown
    have HO : Hid (kEx.own 45 wr (Own w.heap.size (.slice vx acc.length vc)) w.heap.size (.slice vx acc.length vc) acc) := hown
    clear hown
    have hwr := hKr.size
    have HV : Hid (∀ g, (Value.slice vx acc.length vc).ownBlock = some g → w.heap.size ≤ g ∧ g < wr.heap.size) := kEx.own_lt HO.out
    by_cases hlt' : acc.length < cnt
    · have hk1 : (acc.length : Int) < (cnt : Int) := by omega
      obtain ⟨j, hj⟩ : ∃ j, cnt - acc.length = j + 1 := ⟨cnt - acc.length - 1, by omega⟩
      have HS2 : Hid (rdN p cnt l = ((rdBy rdE p l').bind fun y => (rdN p j y.2).bind fun x => .ok (y.1 :: x.1, x.2)).bind fun x => .ok (acc ++ x.1, x.2)) := by show _ = _; rw [HS.out, hj, rdN_succ]
      clear HS
      have hc := expr_rs hE hRs hsz
      cases hr : rdBy rdE p l' with
      | bad x y =>
        have HR : Hid (rdBy rdE p l' = .bad x y) := hr
        clear hr
        go_wp2_with (go_at_call 98; refine hc.mono ?_; rintro e w1 hG; obtain rfl := hG.bad _ _ HR.out)
        exact ⟨rfl, .ofBad (by rw [HS2.out, HR.out]; rfl) (hKr.trans hG.kept)⟩
      | ok y =>
        obtain ⟨⟨kind, n, op, name, xl⟩, l2⟩ := y
        have HR : Hid (rdBy rdE p l' = .ok (.mk kind n op name xl, l2)) := hr
        have hsz2 := (rdBy_sz hr).1
        clear hr
        go_wp2_with (first | (go_at_call 98; refine hc.mono ?_; rintro e w1 hG; obtain ⟨hRs1, v, rfl, va, vc', rfl, hvc, hvr⟩ := hG.ok _ _ HR.out; obtain ⟨xs, ho, hlay⟩ := kEx.own_keep HO.out hG.kept (fun k e => by omega)) | (at_builtin; (refine wpList_append_lies _ rfl _ _ 43 rfl w.heap.size 45 i0 _ 5 64 Tryz.underlying43 hi0 hz0 hz1 hz2 rfl (by omega) (.slice vx acc.length vc) acc.length xs rfl (ho.alloc _) ⟨w1.heap.size, 0, none⟩ 1 1 [.int .i64 kind, .int .u32 n, .int .i64 op, .string (bs name), .slice va xl.length vc'] rfl rfl (World.news_of_block (cs := #[.int .i64 kind, .int .u32 n, .int .i64 op, .string (bs name), .slice va xl.length vc']) (t := 45) (fr := (0, 0)) (heap_alloc_new w1 _)) (by simp [Value.oneCell']) (by omega) (by unfold maxLen; omega) (by omega) (by have := hG.kept.size; simp; omega) (w1.heap.size + 1) (by simp) ?_; intro g cap w3 hown3 hgrow hat hltg)))
        have hv := HV.out
        have hk1 := hG.kept
        obtain ⟨hnew, hk3⟩ := kEx.append_all (x := .mk kind n op name xl) hlay (by show exC _ _ _ _; rw [exC]; exact ⟨va, vc', rfl, hvc, exR_mono (fun b hb hl => ⟨⟨by omega, fun e => by have := (hv b e).2; omega⟩, rfl⟩) hvr⟩) hown3 hgrow hat
        have hm3 : ∀ i, (Value.slice vx acc.length vc).ownBlock = some i → w.heap.size ≤ i := fun i e => (hv i e).1
        refine ⟨⟨acc ++ [.mk kind n op name xl], l2, by simp; omega, by simp, by simpa using hnew, (hKr.trans hk1).past hk3 hm3, hRs1.keep hk3 (fun k e => by have := hm3 k e; omega) (fun e => by have := hm3 r e; omega), by omega, ?_⟩, by simp [intOf]; omega⟩
        rw [HS2.out, HR.out, List.length_append, List.length_singleton, show cnt - (acc.length + 1) = j by omega]
        simp only [Res.bind_ok]
        cases rdN p j l2 <;> simp
    · have hk1 : ¬ (acc.length : Int) < (cnt : Int) := by omega
      have hrd := kEx.own_rd HO.out (T := fun b => w.heap.size ≤ b) (fun b hb => hb.1) (fun g hg => (HV.out g hg).1)
      go_wp2_with fail
      go_ret
      refine .ofOk (x := acc) (l := l') ?_ hKr hRs hrd
      rw [HS.out, show cnt - acc.length = 0 by omega, rdN_zero]
      simp
end Go.Proofs.YtbpdhegfdmppgaaGreatDoor

/- CONTRACT of the method args, where readExpr's holds of smaller nodes. -/
namespace Go.Proofs.YtbpdhegfdmppgaaGreatDoor
open Go.ChangeShapes Go.WideShapes Go.ChangeAt Go.RowKit

/-- How many nodes are left. -/
def leftAt (w : World) (r : Nat) : Nat :=
  match w.cell? ⟨r, 0, none⟩ with
  | some (.slice _ n _) => n
  | _ => 0
theorem Rs.left {B : Nat} {w : World} {r : Nat} {l : List Nd} {p : Int} (h : Rs B w r l p) : leftAt w r = l.length := by
  obtain ⟨a, c, hh, _⟩ := h.row
  simp [leftAt, (cells2 hh).1]
theorem rdArgs_nil (k : Nat) : rdArgs k [] = .ok [] := by rw [rdArgs]
theorem rdArgs_cons (k : Nat) (n : Nd) (r : List Nd) : rdArgs k (n :: r) = if 6 ≤ k then .bad 5 n.pos else (rdE n).bind fun e => (rdArgs (k + 1) r).bind fun x => .ok (e :: x) := by rw [rdArgs]

set_option maxHeartbeats 3200000 in
theorem args_rs {m B : Nat} {w : World} {r : Nat} {l : List Nd} {p : Int} (hE : ExprN m) (h : Rs B w r l p) (hs : szL l ≤ m) :
    Calls Tryz.prog 133 #[.pointer (some ⟨r, 0, none⟩)] w (Takes kEx.rd B w r p ((rdArgs 0 l).bind fun x => .ok (x, []))) := by
  have hlt := h.lt
  have hB := h.own
  obtain ⟨i0, hi0, hz0, hz1, hz2⟩ := info_parts exprs_info
  go_enter Tryz.func133, Tryz.ntmps133
  go_wp2_with fail
  go_loopw [3] (fun v wr => ∃ (acc : List Ex) (l' : List Nd), acc.length ≤ 6 ∧ kEx.own 45 wr (Own w.heap.size v) w.heap.size v acc ∧ Kept (fun k => k = r) w wr ∧ Rs B wr r l' p ∧ szL l' ≤ m ∧
    rdArgs 0 l = (rdArgs acc.length l').bind fun x => .ok (acc ++ x)) (fun _ wr => leftAt wr r)
  case atStart => exact ⟨[], l, Nat.zero_le _, kEx.own_none _ _ _ _, Kept.refl _ _, h, hs, by rw [List.length_nil]; cases rdArgs 0 l <;> rfl⟩
  case round =>
    obtain ⟨acc, l', hk, hown, hKr, hRs, hsz, hsp⟩ := hrel
    have HS : Hid (rdArgs 0 l = (rdArgs acc.length l').bind fun x => .ok (acc ++ x)) := hsp
    clear hsp
    obtain ⟨vx, vc, rfl⟩ := kEx.own_form hown
    have HO : Hid (kEx.own 45 wr (Own w.heap.size (.slice vx acc.length vc)) w.heap.size (.slice vx acc.length vc) acc) := hown
    clear hown
    have hwr := hKr.size
    have HV : Hid (∀ g, (Value.slice vx acc.length vc).ownBlock = some g → w.heap.size ≤ g ∧ g < wr.heap.size) := kEx.own_lt HO.out
    have hmore := more_rs hRs
    cases l' with
    | nil =>
      have hrd := kEx.own_rd HO.out (T := fun b => w.heap.size ≤ b) (fun b hb => hb.1) (fun g hg => (HV.out g hg).1)
      go_wp2_with (go_at_call 62; refine hmore.mono ?_; rintro e w9 ⟨rfl, hq⟩; have hq' := hq.symm; subst hq')
      go_ret
      refine .ofOk (x := acc) (l := []) ?_ hKr hRs hrd
      rw [HS.out, rdArgs_nil]
      simp
    | cons nd l2 =>
      obtain ⟨il, wd, ks, q⟩ := nd
      have hwok := hRs.wok.1
      have hszn : (Nd.mk il wd ks q).sz ≤ m := by simp only [szL] at hsz; omega
      have hszl : szL l2 ≤ m := by simp only [szL] at hsz; omega
      have hdec : decide (0 < (Nd.mk il wd ks q :: l2).length) = true := by simp
      rw [hdec] at hmore
      clear hdec
      by_cases h6 : 6 ≤ acc.length
      · have HS2 : Hid (rdArgs 0 l = .bad 5 q) := by show _ = _; rw [HS.out, rdArgs_cons, if_pos h6]; rfl
        clear HS
        have hc := nextOf_long il wd ks q acc.length 6 h6 hRs
        go_wp2_with (first | (go_at_call 62; refine hmore.mono ?_; rintro e w9 ⟨rfl, hq⟩; have hq' := hq.symm; subst hq') | (go_at_call 64; refine hc.mono ?_; rintro e w1 ⟨rfl, hk1⟩))
        exact ⟨rfl, .ofBad (by rw [HS2.out]; rfl) (hKr.trans hk1)⟩
      · have HS2 : Hid (rdArgs 0 l = ((rdE (.mk il wd ks q)).bind fun e => (rdArgs (acc.length + 1) l2).bind fun x => .ok (e :: x)).bind fun x => .ok (acc ++ x)) := by show _ = _; rw [HS.out, rdArgs_cons, if_neg h6]
        clear HS
        have hc := nextOf_ok il wd ks q acc.length 6 (by omega) hRs
        cases hr : rdE (.mk il wd ks q) with
        | bad x y =>
          have HR : Hid (rdE (.mk il wd ks q) = .bad x y) := hr
          clear hr
          go_wp2_with (first | (go_at_call 62; refine hmore.mono ?_; rintro e w9 ⟨rfl, hq⟩; have hq' := hq.symm; subst hq') | (go_at_call 64; refine hc.mono ?_; rintro e w1 ⟨a, c, rfl, hrow, hcap, hR1, hK1⟩) | (go_at_call 115; refine (hE B _ il wd ks q a c hR1.glob hwok hrow hcap hszn).mono ?_; rintro e w2 hG; obtain rfl := hG.bad _ _ HR.out))
          exact ⟨rfl, .ofBad (by rw [HS2.out, HR.out]; rfl) ((hKr.trans hK1).on hG.below)⟩
        | ok x =>
          obtain ⟨kind, n, op, name, xl⟩ := x
          have HR : Hid (rdE (.mk il wd ks q) = .ok (.mk kind n op name xl)) := hr
          clear hr
          go_wp2_with (first | (go_at_call 62; refine hmore.mono ?_; rintro e w9 ⟨rfl, hq⟩; have hq' := hq.symm; subst hq') | (go_at_call 64; refine hc.mono ?_; rintro e w1 ⟨a, c, rfl, hrow, hcap, hR1, hK1⟩) | (go_at_call 115; refine (hE B _ il wd ks q a c hR1.glob hwok hrow hcap hszn).mono ?_; rintro e w2 hG; obtain ⟨v, rfl, va, vc', rfl, hvc, hvr⟩ := hG.ok _ HR.out; obtain ⟨xs, ho, hlay⟩ := kEx.own_keep HO.out (hK1.on hG.below) (fun k e => by omega)) | (at_builtin; (refine wpList_append_lies _ rfl _ _ 43 rfl w.heap.size 45 i0 _ 5 64 Tryz.underlying43 hi0 hz0 hz1 hz2 rfl (by omega) (.slice vx acc.length vc) acc.length xs rfl (ho.alloc _) ⟨w2.heap.size, 0, none⟩ 1 1 [.int .i64 kind, .int .u32 n, .int .i64 op, .string (bs name), .slice va xl.length vc'] rfl rfl (World.news_of_block (cs := #[.int .i64 kind, .int .u32 n, .int .i64 op, .string (bs name), .slice va xl.length vc']) (t := 45) (fr := (0, 0)) (heap_alloc_new w2 _)) (by simp [Value.oneCell']) (by omega) (by unfold maxLen; omega) (by omega) (by have := (hK1.on hG.below).size; simp; omega) (w2.heap.size + 1) (by simp) ?_; intro g cap w3 hown3 hgrow hat hltg)))
          have hv := HV.out
          have hk1 := hK1.on hG.below
          have hw1 := hK1.size
          obtain ⟨hnew, hk3⟩ := kEx.append_all (x := .mk kind n op name xl) hlay (by show exC _ _ _ _; rw [exC]; exact ⟨va, vc', rfl, hvc, exR_mono (fun b hb hl => ⟨⟨by omega, fun e => by have := (hv b e).2; omega⟩, rfl⟩) hvr⟩) hown3 hgrow hat
          have hm3 : ∀ i, (Value.slice vx acc.length vc).ownBlock = some i → w.heap.size ≤ i := fun i e => (hv i e).1
          refine ⟨⟨acc ++ [.mk kind n op name xl], l2, by simp; omega, by simpa using hnew, (hKr.trans hk1).past hk3 hm3, (hR1.below hG.below).keep hk3 (fun k e => by have := hm3 k e; omega) (fun e => by have := hm3 r e; omega), by omega, ?_⟩, ?_⟩
          rotate_left
          · rw [((hR1.below hG.below).keep hk3 (fun k e => by have := hm3 k e; omega) (fun e => by have := hm3 r e; omega)).left, hRs.left]; simp
          rw [HS2.out, HR.out, List.length_append, List.length_singleton]
          simp only [Res.bind_ok]
          cases rdArgs (acc.length + 1) l2 <;> simp
end Go.Proofs.YtbpdhegfdmppgaaGreatDoor
