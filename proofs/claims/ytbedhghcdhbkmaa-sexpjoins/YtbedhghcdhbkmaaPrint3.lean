/- CONTRACTS of sexp.appendNodes, Print. -/
import Derived.Test.YtbedhghcdhbkmaaPrint2
namespace Go.Proofs.Ytbedhghcdhbkmaa
open Go.ChangeShapes Go.WideShapes Go.ChangeAt Go.RowKit

theorem node_any (n base : Nat) (w : World) (tv : Value) (t : List UInt8) (il : Bool) (wd : List UInt8) (ks : List Nd) (p : Int) (a : Option Addr) (c deep : Nat) (ih : NodesOut n) (hn : sizeL ks ≤ n) (ht : TextOwn w base tv t) (hbase : base ≤ w.heap.size)
    (hlen : t.length + (2 + wd.length + wtL ks) ≤ 1000000000) (hks : ks.length ≤ 1000000000) (hd : deep ≤ 24) (hrow : Row (fun b => b < base) w a ks) :
    Calls Try.prog 31 #[tv, .agg #[.bool il, .string (bs wd), .slice a ks.length c, .int .i64 p], .int .i64 deep] w (OutOf base w tv t (pN deep (.mk il wd ks p)) false) := by
  cases il with
  | false => exact node_word base w tv t wd ks p a c deep ht hbase (by omega) hks
  | true => exact node_list n base w tv t wd ks p a c deep ih hn ht hbase (by omega) hd hrow

theorem wt_at : ∀ (l : List Nd) (k : Nat) (x : Nd), l[k]? = some x → wtL (l.drop k) = Nd.wt x + wtL (l.drop (k + 1)) := fun l k x h => by
  obtain ⟨hk, e⟩ := List.getElem?_eq_some_iff.1 h
  rw [List.drop_eq_getElem_cons hk, e, wtL]
theorem go_at {sep : UInt8} {deep : Nat} {f : Bool} (l : List Nd) (k : Nat) (x : Nd) (h : l[k]? = some x) : pGo sep deep f (l.drop k) = (match pN deep x with | none => none | some a => match pGo sep deep false (l.drop (k + 1)) with | none => none | some b => some ((if f then [] else [sep]) ++ (a ++ b))) := by
  obtain ⟨hk, e⟩ := List.getElem?_eq_some_iff.1 h
  rw [List.drop_eq_getElem_cons hk, e, pGo]
  rfl

theorem wt_size : ∀ (l : List Nd), sizeL l ≤ wtL l
  | [] => Nat.le_refl _
  | .mk il wd ks p :: l => by
    have h1 := wt_size ks
    have h2 := wt_size l
    simp only [sizeL, wtL, Nd.size, Nd.wt]
    omega
theorem wt_drop : ∀ (l : List Nd) (k : Nat), wtL (l.drop k) ≤ wtL l
  | [], k => by simp [wtL]
  | x :: l, 0 => Nat.le_refl _
  | x :: l, k + 1 => by have := wt_drop l k; simp only [List.drop_succ_cons, wtL]; omega

set_option maxRecDepth 100000 in
set_option maxHeartbeats 6400000 in
theorem nodes_out (n : Nat) : NodesOut n := by
  induction n using Nat.strongRecOn with
  | _ n ih =>
    intro base w tv t l a c deep sep hn ht hbase hlen hd hrow
    obtain ⟨i0, hi0, hz0, hz1, hz2⟩ := info_parts info5s
    have hls := len_size l
    have hlw := wt_size l
    obtain ⟨O, hO⟩ : ∃ O, pGo sep deep true l = O := ⟨_, rfl⟩
    rw [hO]
    have HO : Hid (pGo sep deep true l = O) := hO
    clear hO
    go_enter Try.func22, Try.ntmps22
    go_wp2_with fail
    go_loopw [0, 15] (fun tx i wr => ∃ (k : Nat) (u : List UInt8), k ≤ l.length ∧ i = .int .i64 k ∧ TextOwn wr base tx (t ++ u) ∧ KeptT w tv wr ∧ Moved w tv tx ∧ u.length + wtL (l.drop k) ≤ wtL l ∧ O = (pGo sep deep (k == 0) (l.drop k)).map (u ++ ·)) (fun _ i _ => l.length - (intOf i).toNat)
    case atStart => exact ⟨0, [], Nat.zero_le _, rfl, by rw [List.append_nil]; exact ht, Kept.refl _ _, Moved.refl _ _, by simp, by rw [← HO.out]; simp⟩
    case round =>
      obtain ⟨k, u, hk, rfl, htx, hkp, hmv, hul, hOk⟩ := hrel
      have HK : Hid (O = (pGo sep deep (k == 0) (l.drop k)).map (u ++ ·)) := hOk
      clear hOk
      obtain ⟨x0, c0, L0, hL0, rfl, ho0⟩ := text_form htx
      have hbel := hkp.below hbase fun g hg => (ht.lt g hg).1
      have hbs : base ≤ wr.heap.size := Nat.le_trans hbase hkp.size
      by_cases hlt : k < l.length
      · obtain ⟨il, wd, ks, p, hx⟩ := nd_eta l[k]
        have hx' : l[k]? = some (.mk il wd ks p) := by rw [List.getElem?_eq_getElem hlt, hx]
        have HG : Hid (l[k]? = some (.mk il wd ks p)) := hx'
        have hsz := size_at l k il wd ks p hx'
        have hwt := wt_at l k _ hx'
        have hrw : Row (fun b => b < base) wr a l := hrow.mono fun b hb _ => ⟨hb, hbel.block b hb⟩
        obtain ⟨xb, xo, xa, xc, rfl, hxS, y0, y1, y2, y3, yr⟩ := hrw.at_ k il wd ks p hx'
        have hksl := len_size ks
        have hk0 : (0 : Int) ≤ (k : Int) := by omega
        have hk1 : (k : Int) < (l.length : Int) := by omega
        clear hx hx' hrw
        have hB : Below wr.heap.size wr (wr.alloc (Obj.cells #[.bool il, .string (bs wd), .slice xa ks.length xc, .int .i64 p] 37)) := (Below.refl _ _).alloc (Nat.le_refl _) _
        have hbox := heap_alloc_new wr (Obj.cells #[.bool il, .string (bs wd), .slice xa ks.length xc, .int .i64 p] 37)
        have hWs : Hid ((wr.alloc (Obj.cells #[.bool il, .string (bs wd), .slice xa ks.length xc, .int .i64 p] 37)).heap.size = wr.heap.size + 1) := by simp [Hid]
        have htl : t.length + u.length = L0 := by have := hL0.out; rw [List.length_append] at this; omega
        have hdk := wt_drop l k
        have h1z : (k + 1 == 0) = false := by simp
        by_cases hkz : k = 0
        · have hkz' : ¬ (0 : Int) < (k : Int) := by omega
          have hkb : (k == 0) = true := by simp [hkz]
          have hcall := node_any (sizeL ks) base (wr.alloc (Obj.cells #[.bool il, .string (bs wd), .slice xa ks.length xc, .int .i64 p] 37)) (.slice x0 L0 c0) (t ++ u) il wd ks p xa xc deep (ih _ (by omega)) (Nat.le_refl _) (by have := hL0.out; unfold TextOwn; rw [← this]; exact ho0.alloc _) (by have := hWs.out; omega) (by rw [List.length_append]; simp only [Nd.wt] at hwt; omega) (by omega) hd (yr.mono fun b hb hl => ⟨hb, hB.block b hl⟩)
          rcases hpn : pN deep (.mk il wd ks p) with _ | z
          · rw [hpn] at hcall
            have HF : Hid (O = none) := by show _ = _; rw [HK.out, go_at l k _ HG.out, hpn]; rfl
            clear hpn hkz hkb h1z
            go_wp2_with (go_at_call 31; refine hcall.mono ?_; rintro e w2 hout; obtain ⟨v2, rfl, hk2⟩ := hout.fails')
            go_ret2
            rw [HF.out]
            exact ⟨(hkp.same (KeptT.of_below tv hB)).trans hmv hk2, .inl ⟨rfl, _, rfl, fun _ => rfl⟩⟩
          · rw [hpn] at hcall
            have hpl := print_len deep _ _ hpn
            have HF : Hid (O = (pGo sep deep (k + 1 == 0) (l.drop (k + 1))).map ((u ++ z) ++ ·)) := by
              show _ = _
              rw [HK.out, go_at l k _ HG.out, hpn, hkb, h1z]
              rcases pGo sep deep false (l.drop (k + 1)) with _ | b <;> simp
            clear hpn hkz hkb h1z
            go_wp2_with (go_at_call 31; refine hcall.mono ?_; rintro e w2 hout; obtain ⟨v2, rfl, hk2, ht2, hm2⟩ := hout.tells)
            go_roundw
            case rel => exact ⟨k + 1, u ++ z, by omega, by go_num, by rw [← List.append_assoc]; exact ht2, (hkp.same (KeptT.of_below tv hB)).trans hmv hk2, hmv.trans (Nat.le_trans hkp.size hB.size) hm2, by rw [List.length_append]; omega, HF.out⟩
            case measure => simp [intOf]; omega
        · have hkz' : (0 : Int) < (k : Int) := by omega
          have hkb : (k == 0) = false := by simp [hkz]
          obtain ⟨W, hW⟩ : ∃ W, wr.alloc (Obj.cells #[.bool il, .string (bs wd), .slice xa ks.length xc, .int .i64 p] 37) = W := ⟨_, rfl⟩
          have HW : Hid (wr.alloc (Obj.cells #[.bool il, .string (bs wd), .slice xa ks.length xc, .int .i64 p] 37) = W) := hW
          have howW : W.ownsRow base 5 1 (.slice x0 L0 c0) L0 (byteCells (bs (t ++ u))) := by rw [← hW]; exact ho0.alloc _
          rw [hW] at hB hbox hWs
          obtain ⟨b0, b1, b2, b3⟩ := cells4 hbox
          have hne : (Value.slice x0 L0 c0).ownBlock ≠ some wr.heap.size := fun e => by have := (ho0.lt _ e).2; omega
          clear hW
          have hstep : ∀ (g cap : Nat) (w1 : World), w1.ownsRow base 5 1 (.slice (some ⟨g, 0, none⟩) (L0 + 1) cap) (L0 + 1) (byteCells (bs (t ++ u)) ++ [.int .u8 sep.toNat]) → (W.alloc (.cells #[.int .u8 sep.toNat] 5)).grownBy w1 (Value.slice x0 L0 c0).ownBlock →
              ((Value.slice x0 L0 c0).ownBlock = some g ∨ g = W.heap.size + 1) →
              Calls Try.prog 31 #[.slice (some ⟨g, 0, none⟩) (L0 + 1) cap, .agg #[.bool il, .string (bs wd), .slice xa ks.length xc, .int .i64 p], .int .i64 deep] w1 (OutOf base w1 (.slice (some ⟨g, 0, none⟩) (L0 + 1) cap) (t ++ u ++ [sep]) (pN deep (.mk il wd ks p)) false) ∧
              KeptT w tv w1 ∧ Moved w tv (.slice (some ⟨g, 0, none⟩) (L0 + 1) cap) := fun g cap w1 h1 h2 h3 => by
            have hk1 : KeptT wr (.slice x0 L0 c0) w1 := (KeptT.of_below _ hB).same (kept_grow h2)
            refine ⟨node_any (sizeL ks) base w1 (.slice (some ⟨g, 0, none⟩) (L0 + 1) cap) (t ++ u ++ [sep]) il wd ks p xa xc deep (ih _ (by omega)) (Nat.le_refl _) (text_one (by rw [← hL0.out]) h1) (by have := hk1.size; omega) (by simp only [List.length_append, List.length_singleton]; simp only [Nd.wt] at hwt; omega) (by omega) hd (yr.mono fun b hb hl => ⟨hb, hk1.block b hl fun e => by have := (ho0.lt b e).1; omega⟩), hkp.trans hmv hk1, hmv.trans hkp.size (moved_lies h3 hB.size)⟩
          have hsp0 : (0 : Int) ≤ (sep.toNat : Int) := by omega
          rcases hpn : pN deep (.mk il wd ks p) with _ | z
          · rw [hpn] at hstep
            have HF : Hid (O = none) := by show _ = _; rw [HK.out, go_at l k _ HG.out, hpn]; rfl
            clear hpn hkz hkb h1z
            go_wp2_with (first | (at_builtin; rw [HW.out]; refine wpList_append_lies _ rfl _ _ 44 rfl base 5 i0 _ 1 1 Try.underlying44 hi0 hz0 hz1 hz2 rfl (by omega) (.slice x0 L0 c0) L0 _ rfl (howW.alloc _) ⟨wr.heap.size + 1, 0, none⟩ 1 1 [.int .u8 sep.toNat] rfl rfl (by rw [← hWs.out]; exact World.news_of_block (cs := #[.int .u8 sep.toNat]) (t := 5) (fr := (0, 0)) (heap_alloc_new W _)) (by simp [Value.oneCell']) (by omega) (by unfold maxLen; omega) (by omega) (by have := hWs.out; simp; omega) (W.heap.size + 1) (by simp) ?_; intro g cap w1 hown1 hgrow hat hlt1; obtain ⟨hcl, hkw, hmw⟩ := hstep g cap w1 hown1 hgrow hat; have e0 := (hgrow.cell_far ⟨wr.heap.size, 0, none⟩ (by have := hWs.out; simp; omega) hne.symm).trans (alloc_cell _ b0); have e1 := (hgrow.cell_far ⟨wr.heap.size, 1, none⟩ (by have := hWs.out; simp; omega) hne.symm).trans (alloc_cell _ b1); have e2 := (hgrow.cell_far ⟨wr.heap.size, 2, none⟩ (by have := hWs.out; simp; omega) hne.symm).trans (alloc_cell _ b2); have e3 := (hgrow.cell_far ⟨wr.heap.size, 3, none⟩ (by have := hWs.out; simp; omega) hne.symm).trans (alloc_cell _ b3)) | (go_at_call 31; refine hcl.mono ?_; rintro e w2 hout; obtain ⟨v2, rfl, hk2⟩ := hout.fails'))
            go_ret2
            rw [HF.out]
            exact ⟨hkw.trans hmw hk2, .inl ⟨rfl, _, rfl, fun _ => rfl⟩⟩
          · rw [hpn] at hstep
            have hpl := print_len deep _ _ hpn
            have HF : Hid (O = (pGo sep deep (k + 1 == 0) (l.drop (k + 1))).map ((u ++ [sep] ++ z) ++ ·)) := by
              show _ = _
              rw [HK.out, go_at l k _ HG.out, hpn, hkb, h1z]
              rcases pGo sep deep false (l.drop (k + 1)) with _ | b <;> simp
            clear hpn hkz hkb h1z
            go_wp2_with (first | (at_builtin; rw [HW.out]; refine wpList_append_lies _ rfl _ _ 44 rfl base 5 i0 _ 1 1 Try.underlying44 hi0 hz0 hz1 hz2 rfl (by omega) (.slice x0 L0 c0) L0 _ rfl (howW.alloc _) ⟨wr.heap.size + 1, 0, none⟩ 1 1 [.int .u8 sep.toNat] rfl rfl (by rw [← hWs.out]; exact World.news_of_block (cs := #[.int .u8 sep.toNat]) (t := 5) (fr := (0, 0)) (heap_alloc_new W _)) (by simp [Value.oneCell']) (by omega) (by unfold maxLen; omega) (by omega) (by have := hWs.out; simp; omega) (W.heap.size + 1) (by simp) ?_; intro g cap w1 hown1 hgrow hat hlt1; obtain ⟨hcl, hkw, hmw⟩ := hstep g cap w1 hown1 hgrow hat; have e0 := (hgrow.cell_far ⟨wr.heap.size, 0, none⟩ (by have := hWs.out; simp; omega) hne.symm).trans (alloc_cell _ b0); have e1 := (hgrow.cell_far ⟨wr.heap.size, 1, none⟩ (by have := hWs.out; simp; omega) hne.symm).trans (alloc_cell _ b1); have e2 := (hgrow.cell_far ⟨wr.heap.size, 2, none⟩ (by have := hWs.out; simp; omega) hne.symm).trans (alloc_cell _ b2); have e3 := (hgrow.cell_far ⟨wr.heap.size, 3, none⟩ (by have := hWs.out; simp; omega) hne.symm).trans (alloc_cell _ b3)) | (go_at_call 31; refine hcl.mono ?_; rintro e w2 hout; obtain ⟨v2, rfl, hk2, ht2, hm2⟩ := hout.tells))
            go_roundw
            case rel => exact ⟨k + 1, u ++ [sep] ++ z, by omega, by go_num, by simpa using ht2, hkw.trans hmw hk2, hmw.trans hkw.size hm2, by simp only [List.length_append, List.length_singleton]; omega, HF.out⟩
            case measure => simp [intOf]; omega
      · have HF : Hid (O = some u) := by show _ = _; rw [HK.out, List.drop_of_length_le (by omega)]; simp [pGo]
        go_wp2_with fail
        go_ret2
        rw [HF.out]
        exact ⟨hkp, .inr ⟨u, _, rfl, rfl, htx, hmv⟩⟩
end Go.Proofs.Ytbedhghcdhbkmaa
