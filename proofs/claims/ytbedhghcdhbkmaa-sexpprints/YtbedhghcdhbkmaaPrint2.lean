/- CONTRACTS of sexp.appendNode at a list, appendNodes, Print. -/
import Derived.Test.YtbedhghcdhbkmaaPrint
namespace Go.Proofs.Ytbedhghcdhbkmaa
open Go.ChangeShapes Go.WideShapes Go.ChangeAt Go.RowKit

attribute [local go_sem ↓] Go.wp_at_zero Go.wp_at_succ

theorem kept_grow {w2 w3 : World} {v : Value} {o : Obj} (h : (w2.alloc o).grownBy w3 v.ownBlock) : KeptT w2 v w3 := (Kept.alloc w2 o _).trans (Kept.of_grown h)
theorem kept_grow' {w2 w3 : World} {v : Value} {o : Obj} (h : (w2.alloc o).drew.grownBy w3 v.ownBlock) : KeptT w2 v w3 := ((Kept.alloc w2 o _).drew).trans (Kept.of_grown h)
theorem moved_lies {w W : World} {v : Value} {g n cap : Nat} (h : v.ownBlock = some g ∨ g = W.heap.size + 1) (hs : w.heap.size ≤ W.heap.size) : Moved w v (.slice (some ⟨g, 0, none⟩) n cap) := fun k hk => by
  simp only [Value.ownBlock, Option.some.injEq] at hk
  subst hk
  rcases h with h | h
  · exact .inl h
  · exact .inr (by omega)
theorem kept_none {w w' : World} {n c : Nat} (u : Value) (h : KeptT w (.slice none n c) w') : KeptT w u w' := Kept.mono h fun k _ hk => by simp [Value.ownBlock] at hk
theorem text_form {w : World} {base : Nat} {v : Value} {t : List UInt8} (h : TextOwn w base v t) : ∃ x c L, Hid (L = t.length) ∧ v = .slice x L c ∧ w.ownsRow base 5 1 (.slice x L c) L (byteCells (bs t)) := by
  have h' : w.ownsRow base 5 1 v t.length (byteCells (bs t)) := h
  rcases h.2 with ⟨rfl, h0⟩ | ⟨g, cap, cur, rfl, _⟩
  · exact ⟨none, 0, 0, h0.symm, rfl, by rw [h0] at h'; exact h'⟩
  · exact ⟨_, _, _, rfl, rfl, h'⟩

set_option maxRecDepth 100000 in
set_option maxHeartbeats 3200000 in
/-- A node that is a list. -/
theorem node_list (n base : Nat) (w : World) (tv : Value) (t : List UInt8) (wd : List UInt8) (ks : List Nd) (p : Int) (a : Option Addr) (c deep : Nat) (ih : NodesOut n) (hn : sizeL ks ≤ n) (ht : TextOwn w base tv t) (hbase : base ≤ w.heap.size)
    (hlen : t.length + (wtL ks + 2) ≤ 1000000000) (hd : deep ≤ 24) (hrow : Row (fun b => b < base) w a ks) :
    Calls Try.prog 31 #[tv, .agg #[.bool true, .string (bs wd), .slice a ks.length c, .int .i64 p], .int .i64 deep] w (OutOf base w tv t (pN deep (.mk true wd ks p)) false) := by
  obtain ⟨i0, hi0, hz0, hz1, hz2⟩ := info_parts info5s
  have hB : Below w.heap.size w (w.alloc (Obj.cells #[.bool true, .string (bs wd), .slice a ks.length c, .int .i64 p] 37)) := (Below.refl _ _).alloc (Nat.le_refl _) _
  have hbox := heap_alloc_new w (Obj.cells #[.bool true, .string (bs wd), .slice a ks.length c, .int .i64 p] 37)
  have hlt := ht.lt
  have hWs : Hid ((w.alloc (Obj.cells #[.bool true, .string (bs wd), .slice a ks.length c, .int .i64 p] 37)).heap.size = w.heap.size + 1) := by simp [Hid]
  by_cases hw : wd = []
  · subst hw
    by_cases hd24 : deep < 24
    · have hwr : IntKind.i64.wrap ((deep : Int) + 1) = (deep : Int) + 1 := by rw [IntKind.wrap_i64]; omega
      have hdd : ¬ (24 : Int) ≤ (deep : Int) := by omega
      have hbs0 : (bs []).toList = [] := by rw [ByteArray.toList_eq]; rfl
      have hc : ∀ (w1 : World) (v : Value), TextOwn w1 base v (t ++ [40]) → base ≤ w1.heap.size → Row (fun b => b < base) w1 a ks → Calls Try.prog 22 #[v, .slice a ks.length c, .int .u8 32, .int .i64 ((deep : Int) + 1)] w1 (OutOf base w1 v (t ++ [40]) (pGo 32 (deep + 1) true ks) true) := fun w1 v h1 h2 h3 => by
        have h := ih base w1 v (t ++ [40]) ks a c (deep + 1) 32 hn h1 h2 (by simp; omega) (by omega) h3
        rw [show ((deep + 1 : Nat) : Int) = (deep : Int) + 1 by omega] at h
        exact h
      clear ih hd
      rcases hpg : pGo 32 (deep + 1) true ks with _ | u
      · have HP' : Hid (pN deep (.mk true [] ks p) = none) := by show _ = _; simp only [pN]; rw [if_pos ⟨trivial, hd24⟩, hpg]
        rw [hpg] at hc
        rw [HP'.out]
        clear HP' hpg
        go_enter Try.func31, Try.ntmps31
        go_wp2_with fail
        generalize (w.alloc (Obj.cells #[Value.bool true, Value.string (bs []), Value.slice a ks.length c, Value.int IntKind.i64 p] 37)) = W at hB hbox hWs ⊢
        obtain ⟨b0, b1, b2, b3⟩ := cells4 hbox
        have htW : TextOwn W base tv t := ht.below hB fun g hg => (hlt g hg).2
        have hne : tv.ownBlock ≠ some w.heap.size := fun e => by have := (hlt _ e).2; omega
        have f2 : ∀ c' t', (W.alloc (.cells c' t')).cell? ⟨w.heap.size, 2, none⟩ = some (.slice a ks.length c) := fun c' t' => alloc_cell _ b2
        have hrb : ∀ w1, (W.alloc (.cells #[.int .u8 40] 5)).drew.grownBy w1 tv.ownBlock → ∀ b, b < base → w1.heap[b]? = w.heap[b]? := fun w1 hg b hb => by
          have := hWs.out
          rw [hg.block b (by simp; omega) fun e => by have := (hlt b e.symm).1; omega, show (W.alloc (.cells #[.int .u8 40] 5)).drew.heap[b]? = (W.alloc (.cells #[.int .u8 40] 5)).heap[b]? from rfl, heap_alloc_old W _ (by omega)]
          exact hB.block b (by omega)
        go_region_held3 (fun w' => w'.cell? ⟨w.heap.size, 2, none⟩ = some (.slice a ks.length c)) (first | go_keep | (exact (hgrow.cell_far _ (by have := hWs.out; simp; omega) hne.symm).trans (f2 _ _)) | (exact (World.cell?_of_block (hb2.block w.heap.size (by have := hWs.out; have := hgrow.size; simp at *; omega) hne1)).trans (by assumption))) (first | (refine step_append_lies _ (by rfl) _ _ _ (by rfl) base 5 i0 _ 1 1 Try.underlying44 hi0 hz0 hz1 hz2 rfl (by omega) tv t.length _ (by rfl) ((World.ownsRow.alloc htW _).drew) ⟨W.heap.size, 0, none⟩ 1 1 [.int .u8 40] (by rfl) (by rfl) (World.news_of_block (cs := #[.int .u8 40]) (t := 5) (fr := (0, 0)) (heap_alloc_new W _)) (by simp [Value.oneCell']) (by omega) (by unfold maxLen; omega) (by omega) (by have := hWs.out; simp; omega) (W.heap.size + 1) (by simp) ?_; intro g cap w1 hown1 hgrow hat hlt1; have hne1 : (Value.slice (some ⟨g, 0, none⟩) (t.length + 1) cap).ownBlock ≠ some w.heap.size := (by intro e; simp only [Value.ownBlock, Option.some.injEq] at e; rcases hat with h | h; exact hne (by rw [h, e]); have := hWs.out; omega)) | (go_at_call 22; refine (hc w1 _ (text_one (c := 40) rfl hown1) (by have := hgrow.size; have := hWs.out; simp at *; omega) (hrow.mono fun b hb hl => ⟨hb, hrb w1 hgrow b hb⟩)).mono ?_; rintro e w2 hout; obtain ⟨rfl, hb2⟩ := hout.fails))
        have hk1 : KeptT w tv w1 := (KeptT.of_below tv hB).same (kept_grow' hgrow)
        have hm1 : Moved w tv (.slice (some ⟨g, 0, none⟩) (t.length + 1) cap) := moved_lies hat hB.size
        have hs2 : base ≤ w2.heap.size := by have := hk1.size; have := hb2.size; omega
        go_wp2_with (at_builtin; refine wpList_append_lies _ rfl _ _ 44 rfl base 5 i0 _ 1 1 Try.underlying44 hi0 hz0 hz1 hz2 rfl (by omega) (.slice none 0 0) 0 _ rfl (World.ownsRow_nil _ base 5 1) ⟨w2.heap.size, 0, none⟩ 1 1 [.int .u8 41] rfl rfl (World.news_of_block (cs := #[.int .u8 41]) (t := 5) (fr := (0, 0)) (heap_alloc_new w2 _)) (by simp [Value.oneCell']) (by omega) (by unfold maxLen; omega) (by omega) (by have := hs2; simp; omega) (w2.heap.size + 1) (by simp) ?_; intro g3 cap3 w3 hown3 hgrow3 hat3 hlt3)
        go_ret2
        exact ⟨(hk1.trans hm1 hb2).same (kept_none tv (kept_grow hgrow3)), .inl ⟨rfl, _, rfl, fun h => by cases h⟩⟩
      · have HP' : Hid (pN deep (.mk true [] ks p) = some (40 :: (u ++ [41]))) := by show _ = _; simp only [pN]; rw [if_pos ⟨trivial, hd24⟩, hpg]
        rw [hpg] at hc
        have hlu : u.length ≤ wtL ks := print_len_of hpg
        rw [HP'.out]
        clear HP' hpg
        go_enter Try.func31, Try.ntmps31
        go_wp2_with fail
        generalize (w.alloc (Obj.cells #[Value.bool true, Value.string (bs []), Value.slice a ks.length c, Value.int IntKind.i64 p] 37)) = W at hB hbox hWs ⊢
        obtain ⟨b0, b1, b2, b3⟩ := cells4 hbox
        have htW : TextOwn W base tv t := ht.below hB fun g hg => (hlt g hg).2
        have hne : tv.ownBlock ≠ some w.heap.size := fun e => by have := (hlt _ e).2; omega
        have f2 : ∀ c' t', (W.alloc (.cells c' t')).cell? ⟨w.heap.size, 2, none⟩ = some (.slice a ks.length c) := fun c' t' => alloc_cell _ b2
        have hrb : ∀ w1, (W.alloc (.cells #[.int .u8 40] 5)).drew.grownBy w1 tv.ownBlock → ∀ b, b < base → w1.heap[b]? = w.heap[b]? := fun w1 hg b hb => by
          have := hWs.out
          rw [hg.block b (by simp; omega) fun e => by have := (hlt b e.symm).1; omega, show (W.alloc (.cells #[.int .u8 40] 5)).drew.heap[b]? = (W.alloc (.cells #[.int .u8 40] 5)).heap[b]? from rfl, heap_alloc_old W _ (by omega)]
          exact hB.block b (by omega)
        go_region_held3 (fun w' => w'.cell? ⟨w.heap.size, 2, none⟩ = some (.slice a ks.length c)) (first | go_keep | (exact (hgrow.cell_far _ (by have := hWs.out; simp; omega) hne.symm).trans (f2 _ _)) | (exact (World.cell?_of_block (hb2.block w.heap.size (by have := hWs.out; have := hgrow.size; simp at *; omega) hne1)).trans (by assumption))) (first | (refine step_append_lies _ (by rfl) _ _ _ (by rfl) base 5 i0 _ 1 1 Try.underlying44 hi0 hz0 hz1 hz2 rfl (by omega) tv t.length _ (by rfl) ((World.ownsRow.alloc htW _).drew) ⟨W.heap.size, 0, none⟩ 1 1 [.int .u8 40] (by rfl) (by rfl) (World.news_of_block (cs := #[.int .u8 40]) (t := 5) (fr := (0, 0)) (heap_alloc_new W _)) (by simp [Value.oneCell']) (by omega) (by unfold maxLen; omega) (by omega) (by have := hWs.out; simp; omega) (W.heap.size + 1) (by simp) ?_; intro g cap w1 hown1 hgrow hat hlt1; have hne1 : (Value.slice (some ⟨g, 0, none⟩) (t.length + 1) cap).ownBlock ≠ some w.heap.size := (by intro e; simp only [Value.ownBlock, Option.some.injEq] at e; rcases hat with h | h; exact hne (by rw [h, e]); have := hWs.out; omega)) | (go_at_call 22; refine (hc w1 _ (text_one (c := 40) rfl hown1) (by have := hgrow.size; have := hWs.out; simp at *; omega) (hrow.mono fun b hb hl => ⟨hb, hrb w1 hgrow b hb⟩)).mono ?_; rintro e w2 hout; obtain ⟨v2, rfl, hb2, ht2, hm2⟩ := hout.tells; obtain ⟨x2, c2, L2, hL2, rfl, ho2⟩ := text_form ht2))
        have hk1 : KeptT w tv w1 := (KeptT.of_below tv hB).same (kept_grow' hgrow)
        have hm1 : Moved w tv (.slice (some ⟨g, 0, none⟩) (t.length + 1) cap) := moved_lies hat hB.size
        have hs2 : base ≤ w2.heap.size := by have := hk1.size; have := hb2.size; omega
        have hln : L2 ≤ 1000000000 := by have := hL2.out; simp only [List.length_append, List.length_singleton] at this; omega
        go_wp2_with (at_builtin; refine wpList_append_lies _ rfl _ _ 44 rfl base 5 i0 _ 1 1 Try.underlying44 hi0 hz0 hz1 hz2 rfl (by omega) (.slice x2 L2 c2) L2 _ rfl (ho2.alloc _) ⟨w2.heap.size, 0, none⟩ 1 1 [.int .u8 41] rfl rfl (World.news_of_block (cs := #[.int .u8 41]) (t := 5) (fr := (0, 0)) (heap_alloc_new w2 _)) (by simp [Value.oneCell']) (by omega) (by unfold maxLen; omega) (by omega) (by have := hs2; simp; omega) (w2.heap.size + 1) (by simp) ?_; intro g3 cap3 w3 hown3 hgrow3 hat3 hlt3)
        go_ret2
        refine ⟨(hk1.trans hm1 hb2).trans (hm1.trans hk1.size hm2) (kept_grow hgrow3), .inr ⟨40 :: (u ++ [41]), _, rfl, rfl, ?_, (hm1.trans hk1.size hm2).trans (Nat.le_trans hk1.size hb2.size) (moved_lies hat3 (Nat.le_refl _))⟩⟩
        have := text_one (c := 41) (by rw [hL2.out]) hown3
        simpa using this
    · have HP : Hid (pN deep (.mk true [] ks p) = none) := by show _ = _; simp only [pN]; rw [if_neg fun h => hd24 h.2]
      have hdd : (24 : Int) ≤ (deep : Int) := by omega
      have hbs0 : (bs []).toList = [] := by rw [ByteArray.toList_eq]; rfl
      rw [HP.out]
      clear HP ih
      go_enter Try.func31, Try.ntmps31
      go_wp2_with fail
      go_ret2
      exact ⟨KeptT.of_below tv hB, .inl ⟨rfl, _, rfl, fun h => by cases h⟩⟩
  · have HP : Hid (pN deep (.mk true wd ks p) = none) := by show _ = _; simp only [pN]; rw [if_neg fun h => hw h.1]
    have hbs1 : ((bs wd).toList == []) = false := by rw [ByteArray.toList_eq, bs_list, beq_eq_false_iff_ne]; exact hw
    have hbs2 : (bs wd).toList.isEmpty = false := by rw [ByteArray.toList_eq, bs_list]; cases wd with
      | nil => exact absurd rfl hw
      | cons _ _ => rfl
    rw [HP.out]
    clear HP ih
    go_enter Try.func31, Try.ntmps31
    go_wp2_with fail
    go_ret2
    exact ⟨KeptT.of_below tv hB, .inl ⟨rfl, _, rfl, fun h => by cases h⟩⟩
end Go.Proofs.Ytbedhghcdhbkmaa
