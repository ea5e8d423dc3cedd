/- CONTRACT of appendLine. -/
import Derived.Test.YtlagadofiahijaaDoorFInt2
import Derived.Deep.DeepFit
namespace Go.Proofs.YtlagadofiahijaaDoor
open Go.ChangeShapes Go.WideShapes Go.ChangeAt Go.RowKit Go.Shelf

/-- A text under way, since a world. -/
structure Und (w1 : World) (base : Nat) (v : Value) (wr : World) (v' : Value) (l : List UInt8) : Prop where
  tx : Tx wr base v' l
  kept : Kept (fun k => v.ownBlock = some k) w1 wr
  at_ : v'.ownBlock = v.ownBlock ∨ ∃ g, v'.ownBlock = some g ∧ w1.heap.size ≤ g
theorem Tx.form {w : World} {base : Nat} {v : Value} {l : List UInt8} (h : Tx w base v l) : ∃ x c, v = .slice x l.length c := by
  rcases h.2 with ⟨rfl, h0⟩ | ⟨g, cap, cur, rfl, _⟩
  · exact ⟨Option.none, 0, by rw [h0]⟩
  · exact ⟨_, _, rfl⟩
theorem Und.start {w : World} {base : Nat} {v : Value} {l : List UInt8} (h : Tx w base v l) : Und w base v w v l := ⟨h, Kept.refl _ _, .inl rfl⟩
theorem Und.wrote {w1 : World} {base : Nat} {v : Value} {wr : World} {v' : Value} {l l2 : List UInt8} (h : Und w1 base v wr v' l) {e : Ending} {w2 : World} (hw : Wrote base v' l2 wr e w2) : ∃ y c, e = .returned (.slice y l2.length c) ∧ Und w1 base v w2 (.slice y l2.length c) l2 := by
  obtain ⟨⟨y, c, rfl, h2, h3⟩, hk⟩ := hw
  have hsz := h.kept.size
  refine ⟨y, c, rfl, h2, ⟨hk.os.trans h.kept.os, hk.tape.trans h.kept.tape, hk.output.trans h.kept.output, Nat.le_trans hsz hk.size, fun i hi hm => (hk.block i (by omega) fun m => ?_).trans (h.kept.block i hi hm)⟩, ?_⟩
  · rcases h.at_ with h5 | ⟨g, h5, h6⟩
    · exact hm (h5.symm.trans m)
    · have : g = i := Option.some.inj (h5.symm.trans m)
      omega
  · rcases h3 with h3 | ⟨g, h3, h4⟩
    · rcases h.at_ with h5 | ⟨g, h5, h6⟩
      · exact .inl (h3.trans h5)
      · exact .inr ⟨g, h3.trans h5, h6⟩
    · exact .inr ⟨g, h3, by omega⟩
theorem Und.app {w1 : World} {base : Nat} {v : Value} {wr : World} {v' : Value} {l l2 : List UInt8} (h : Und w1 base v wr v' l) {w2 : World} {y : Option Addr} {c : Nat} (hown : w2.ownsRow base 5 1 (.slice y (l.length + l2.length) c) (l.length + l2.length) (Lib.byteCells l ++ Lib.byteCells l2)) (hgrow : wr.grownBy w2 v'.ownBlock)
    (hat : (Value.slice y (l.length + l2.length) c).ownBlock = v'.ownBlock ∨ (Value.slice y (l.length + l2.length) c).ownBlock = some wr.heap.size) : Und w1 base v w2 (.slice y (l.length + l2.length) c) (l ++ l2) := by
  obtain ⟨y', c', e1, h3⟩ := h.wrote (wrote_of hown hgrow hat)
  rw [List.length_append] at e1 h3
  cases e1
  exact h3
theorem Und.app' {w1 : World} {base : Nat} {v : Value} {wr : World} {v' : Value} {l l2 : List UInt8} (h : Und w1 base v wr v' l) {n m : Nat} (hn : n = l.length) (hm : m = l2.length) {w2 : World} {y : Option Addr} {c : Nat} (hown : w2.ownsRow base 5 1 (.slice y (n + m) c) (n + m) (Lib.byteCells l ++ Lib.byteCells l2)) (hgrow : wr.grownBy w2 v'.ownBlock)
    (hat : (Value.slice y (n + m) c).ownBlock = v'.ownBlock ∨ (Value.slice y (n + m) c).ownBlock = some wr.heap.size) : Und w1 base v w2 (.slice y (n + m) c) (l ++ l2) := by
  subst hn hm
  exact h.app hown hgrow hat
theorem Und.own {w1 : World} {base : Nat} {v : Value} {wr : World} {v' : Value} {l : List UInt8} (h : Und w1 base v wr v' l) {n : Nat} (hn : n = l.length) : wr.ownsRow base 5 1 v' n (Lib.byteCells l) := by
  subst hn; exact h.tx
theorem Und.alloc {w1 : World} {base : Nat} {v : Value} {wr : World} {v' : Value} {l : List UInt8} (h : Und w1 base v wr v' l) (o : Obj) : Und w1 base v (wr.alloc o) v' l :=
  ⟨own_kept h.tx (Kept.alloc wr o (fun _ => False)) (fun _ _ h => h), h.kept.alloc_r o, h.at_⟩

theorem src_one (w : World) (b : UInt8) : Src Tryd.prog 1 58 (.slice (some ⟨w.heap.size, 0, none⟩) 1 1) 1 (Lib.byteCells [b]) (w.alloc (.cells #[.int .u8 b.toNat] 5)) := by
  refine Src.ofSlice _ Tryd.underlying58 ⟨w.heap.size, 0, none⟩ 1 1 _ rfl (fun j u hj => ?_) (fun u hu => ?_)
  · have hj0 : j = 0 := by
      rcases Nat.eq_zero_or_pos j with h | h
      · exact h
      · rw [List.getElem?_eq_none (by simp [Lib.byteCells]; omega)] at hj; cases hj
    subst hj0
    have : u = .int .u8 b.toNat := by simpa [Lib.byteCells] using hj.symm
    subst this
    have e : (⟨w.heap.size, 0, none⟩ : Addr).add 0 = ⟨w.heap.size, 0, none⟩ := rfl
    rw [e]
    unfold World.cell?
    rw [heap_alloc_new]
    rfl
  · have : u = .int .u8 b.toNat := by simpa [Lib.byteCells] using hu
    subst this; rfl
theorem src_at (w : World) (b : UInt8) (z : Int) (g : Nat) (hz : (b.toNat : Int) = z) (hg : g = w.heap.size) : Src Tryd.prog 1 58 (.slice (some ⟨g, 0, none⟩) 1 1) 1 (Lib.byteCells [b]) (w.alloc (.cells #[.int .u8 z] 5)) := by
  subst hz hg
  exact src_one w b
theorem lab_len (b : Bool) : (lab b).length = 3 := by cases b <;> rfl
theorem Und.len {w1 : World} {base : Nat} {v : Value} {wr : World} {v' : Value} {l : List UInt8} (h : Und w1 base v wr v' l) : w1.heap.size ≤ wr.heap.size := h.kept.size
theorem flat_take (ps : List Ty) (k : Nat) (hk : k < ps.length) : (ps.take (k + 1)).flatMap tyT = (ps.take k).flatMap tyT ++ tyT ps[k] := by
  rw [List.take_add_one, List.getElem?_eq_getElem hk, List.flatMap_append]; simp

set_option maxRecDepth 100000 in
set_option maxHeartbeats 1000000 in
theorem appendLine_any {S : Nat → Prop} (x : Sg) (a : Option Addr) (c : Nat) {base : Nat} {v : Value} {l : List UInt8} {w : World} (h : Tx w base v l) (hb : base ≤ w.heap.size) (hl : l.length + x.name.length ≤ 400000000) (hr : kTy.row w S a x.ps) (hS : ∀ b, S b → v.ownBlock ≠ some b) (hok : x.ps.all tyOk = true) (hp : x.ps.length ≤ 6) :
    Calls Tryd.prog 18 #[v, .agg #[.string (bs x.name), .slice a x.ps.length c, .bool x.sec]] w (Wrote base v (l ++ lineT x) w) := by
  obtain ⟨nm, ps, sc⟩ := x
  simp only at hl hr hok hp ⊢
  have hsrc := src_str nm
  have h' : (w.alloc (.cells #[.string (bs nm), .slice a ps.length c, .bool sc] 33)).ownsRow base 5 1 v l.length (Lib.byteCells l) := own_kept h (Kept.alloc w _ (fun _ => False)) fun _ _ h => h
  go_enter Tryd.func18, Tryd.ntmps18
  go_wp2_with (first | (at_builtin; refine wpList_append_src by_info rfl Tryd.underlying58 (by decide) _ rfl _ _ rfl base v l.length (Lib.byteCells l) rfl h' _ nm.length (Lib.byteCells nm) rfl (hsrc _) (by omega) (by simp; omega) ?_; intro y c2 w2 hown hgrow hat; refine Hid.out ?_) | go_in)
  refine Lib.hid ?_
  have hu := (Und.start h').app hown hgrow hat
  have HU : Hid _ := hu
  clear hu hown hgrow hat
  have hsig : w2.heap[w.heap.size]? = some (.cells #[.string (bs nm), .slice a ps.length c, .bool sc] 33) := by
    rw [HU.out.kept.block _ (by simp) (fun e => own_lt h w.heap.size (Nat.le_refl _) e)]; exact heap_alloc_new w _
  obtain ⟨c0, c1, c2', f0, f1, f2⟩ := cells3 hsig
  go_wp2
  have hbw : base ≤ (w.alloc (.cells #[.string (bs nm), .slice a ps.length c, .bool sc] 33)).heap.size := by simp; omega
  have hw1 : (w.alloc (.cells #[.string (bs nm), .slice a ps.length c, .bool sc] 33)).heap.size = w.heap.size + 1 := by simp
  have HR : Hid (kTy.row (w.alloc (.cells #[.string (bs nm), .slice a ps.length c, .bool sc] 33)) S a ps) := kTy.row_mono (by decide) hr fun k hk hlt => ⟨hk, heap_alloc_old w _ hlt⟩
  have hsig1 : (w.alloc (.cells #[.string (bs nm), .slice a ps.length c, .bool sc] 33)).heap[w.heap.size]? = some (.cells #[.string (bs nm), .slice a ps.length c, .bool sc] 33) := heap_alloc_new w _
  have hvo : ¬ v.ownBlock = some w.heap.size := fun e => own_lt h w.heap.size (Nat.le_refl _) e
  have HK1 : Hid (Kept (fun k => v.ownBlock = some k) w (w.alloc (.cells #[.string (bs nm), .slice a ps.length c, .bool sc] 33))) := Kept.alloc w _ _
  clear hsig c0 c1 c2' f0 f1 f2 h' hr
  generalize (w.alloc (.cells #[.string (bs nm), .slice a ps.length c, .bool sc] 33)) = w1 at HU hbw hw1 HR hsig1 HK1
  go_loopw [0, 14] (fun v' i wr => ∃ (k : Nat) (acc : List UInt8), k ≤ ps.length ∧ i = .int .i64 k ∧ Und w1 base v wr v' acc ∧ acc.length ≤ l.length + nm.length + 10 * k ∧ acc = l ++ nm ++ (ps.take k).flatMap tyT) (fun _ i _ => ps.length - (intOf i).toNat)
  case atStart => exact ⟨0, l ++ nm, Nat.zero_le _, rfl, HU.out, by simp, by simp⟩
  case round =>
    obtain ⟨k, acc, hk, rfl, hu, hal, hacc⟩ := hrel
    have HA : Hid (acc = l ++ nm ++ (ps.take k).flatMap tyT) := hacc
    clear hacc
    obtain ⟨y0, c0, rfl⟩ := hu.tx.form
    have HU0 : Hid (Und w1 base v wr (.slice y0 acc.length c0) acc) := hu
    have hwz := hu.len
    clear hu HU
    by_cases hlt : k < ps.length
    · obtain ⟨b, o, rfl, hSb, hb2, e0, e1⟩ := ty_at HR.out k hlt
      have hnb : ¬ v.ownBlock = some b := hS b hSb
      have c0' := HU0.out.kept.cell (k := b) hnb e0
      have c1' := HU0.out.kept.cell (k := b) hnb e1
      have hog : ¬ (Value.slice y0 acc.length c0).ownBlock = some wr.heap.size := fun e => own_lt HU0.out.tx wr.heap.size (Nat.le_refl _) e
      clear e0 e1
      have ht : tyOk ps[k] = true := List.all_eq_true.1 hok _ (List.getElem_mem hlt)
      go_wp2_with (first | (at_builtin; go_loud (refine wpList_append_src by_info rfl Tryd.underlying58 (by decide) _ rfl _ _ rfl base (.slice y0 acc.length c0) acc.length (Lib.byteCells acc) rfl ((HU0.out.alloc _).alloc _).tx (.slice (some ⟨wr.heap.size + 1, 0, none⟩) 1 1) 1 (Lib.byteCells [32]) rfl (src_at _ 32 32 _ rfl (by simp)) (by omega) (by simp; omega) ?_; intro y3 c3 w3 hown hgrow hat; refine Hid.out ?_)) | go_in)
      refine Lib.hid ?_
      have HU3 : Hid (Und w1 base v w3 (.slice y3 (acc.length + 1) c3) (acc ++ [32])) := ((HU0.out.alloc _).alloc _).app' (l2 := [32]) rfl rfl hown hgrow hat
      have ht3 : w3.heap[wr.heap.size]? = some (.cells #[.bool ps[k].sec, .int .i64 ps[k].len] 38) := by
        rw [hgrow.block _ (by simp; omega) (fun e => hog e.symm), heap_alloc_old _ _ (by simp)]; exact heap_alloc_new wr _
      have hz3 : wr.heap.size < w3.heap.size := lt_of_some ht3
      have hog3 : ¬ (Value.slice y3 (acc.length + 1) c3).ownBlock = some wr.heap.size := fun e => by
        rcases hat with h4 | h4
        · exact hog (h4.symm.trans e)
        · have := Option.some.inj (h4.symm.trans e); simp at this; omega
      clear hown hgrow hat c0' c1'
      obtain ⟨d0, d1, g0, g1⟩ := cells2 ht3
      have hsl : ∀ W, Src Tryd.prog 1 9 (.string (bs (lab ps[k].sec))) 3 (Lib.byteCells (lab ps[k].sec)) W := fun W => by have := src_str (lab ps[k].sec) W; rw [lab_len] at this; exact this
      have hlb := label_any ps[k].sec
      go_wp2_with (first | (go_at_call 22; refine (hlb _).mono ?_; rintro e w9 ⟨rfl, hq⟩; have hq' := hq.symm; subst hq') | (at_builtin; refine wpList_append_src by_info rfl Tryd.underlying58 (by decide) _ rfl _ _ rfl base (.slice y3 (acc.length + 1) c3) (acc.length + 1) (Lib.byteCells (acc ++ [32])) rfl (HU3.out.own (by simp)) (.string (bs (lab ps[k].sec))) 3 (Lib.byteCells (lab ps[k].sec)) rfl (hsl _) (by omega) (by omega) ?_; intro y4 c4 w4 hown hgrow hat; refine Hid.out ?_) | go_in)
      refine Lib.hid ?_
      have HU4 : Hid (Und w1 base v w4 (.slice y4 (acc.length + 1 + 3) c4) (acc ++ [32] ++ lab ps[k].sec)) := HU3.out.app' (by simp) (lab_len _).symm hown hgrow hat
      have ht4 : w4.heap[wr.heap.size]? = some (.cells #[.bool ps[k].sec, .int .i64 ps[k].len] 38) := by
        rw [hgrow.block _ hz3 (fun e => hog3 e.symm)]; exact ht3
      have hz4 := HU4.out.len
      clear hown hgrow hat d0 d1 g0 g1 hlb hsl ht3
      obtain ⟨d0, d1, g0, g1⟩ := cells2 ht4
      have hln : (acc ++ [32] ++ lab ps[k].sec).length = acc.length + 1 + 3 := by simp [lab_len]
      by_cases hpos : 0 < ps[k].len
      · have hle : ps[k].len ≤ 16 := by simp [tyOk] at ht; omega
        obtain ⟨i, hi⟩ : ∃ i : Nat, ps[k].len = (i : Int) := ⟨ps[k].len.toNat, by omega⟩
        have hc := appendInt_any (v := .slice y4 (acc.length + 4) c4) i (by omega) (by omega) HU4.out.tx (by omega) (by omega)
        rw [← hi] at hc
        have HT : Hid (tyT ps[k] = 32 :: lab ps[k].sec ++ Lib.decDigits i) := by show _ = _; rw [tyT, if_pos hpos, hi]; rfl
        have hil : (Lib.decDigits i).length ≤ 2 := by rw [dig_eq i (by omega)]; unfold dig; split <;> simp
        clear hi
        go_wp2_with (go_at_call 23; go_fit hc; rintro e w5 hw; obtain ⟨y5, c5, rfl, hu5⟩ := HU4.out.wrote hw; have HU5 : Hid _ := hu5; clear hw hu5)
        go_roundw
        case rel =>
          refine ⟨k + 1, acc ++ [32] ++ lab ps[k].sec ++ Lib.decDigits i, by omega, by go_num, ?_, ?_, ?_⟩
          · have e : acc.length + ((lab ps[k].sec).length + (Lib.decDigits i).length + 1) = (acc ++ [32] ++ lab ps[k].sec ++ Lib.decDigits i).length := by simp
            rw [e]
            exact HU5.out
          · rw [List.length_append, hln]; omega
          · rw [HA.out, flat_take ps k hlt, HT.out]; simp
        case measure => simp [intOf]; omega
      · have HT : Hid (tyT ps[k] = 32 :: lab ps[k].sec) := by show _ = _; rw [tyT, if_neg hpos]; simp
        go_wp2_with fail
        go_roundw
        case rel =>
          refine ⟨k + 1, acc ++ [32] ++ lab ps[k].sec, by omega, by go_num, HU4.out, ?_, ?_⟩
          · rw [hln]; omega
          · rw [HA.out, flat_take ps k hlt, HT.out]; simp
        case measure => simp [intOf]; omega
    · have HT : Hid (acc ++ endT sc = l ++ lineT ⟨nm, ps, sc⟩) := by
        show _ = _
        rw [HA.out, List.take_of_length_le (by omega), lineT]; simp
      have hsr : wr.heap[w.heap.size]? = some (.cells #[.string (bs nm), .slice a ps.length c, .bool sc] 33) := by
        rw [HU0.out.kept.block _ (by omega) hvo]; exact hsig1
      have hlt0 : w.heap.size < wr.heap.size := lt_of_some hsr
      have hog : ¬ (Value.slice y0 acc.length c0).ownBlock = some w.heap.size := fun e => by
        rcases HU0.out.at_ with h4 | ⟨g, h4, h5⟩
        · exact hvo (h4.symm.trans e)
        · have := Option.some.inj (h4.symm.trans e); omega
      have hs3 : ∀ W, Src Tryd.prog 1 9 (.string ⟨#[32, 58, 32]⟩) 3 (Lib.byteCells [32, 58, 32]) W := fun W => src_str [32, 58, 32] W
      go_wp2_with (first | (at_builtin; refine wpList_append_src by_info rfl Tryd.underlying58 (by decide) _ rfl _ _ rfl base (.slice y0 acc.length c0) acc.length (Lib.byteCells acc) rfl HU0.out.tx (.string ⟨#[32, 58, 32]⟩) 3 (Lib.byteCells [32, 58, 32]) rfl (hs3 _) (by omega) (by omega) ?_; intro y3 c3 w3 hown hgrow hat; refine Hid.out ?_) | go_in)
      refine Lib.hid ?_
      have HU3 : Hid (Und w1 base v w3 (.slice y3 (acc.length + 3) c3) (acc ++ [32, 58, 32])) := HU0.out.app' (l2 := [32, 58, 32]) rfl rfl hown hgrow hat
      have hs3' : w3.heap[w.heap.size]? = some (.cells #[.string (bs nm), .slice a ps.length c, .bool sc] 33) := by
        rw [hgrow.block _ hlt0 (fun e => hog e.symm)]; exact hsr
      have hz3 := HU3.out.len
      clear hown hgrow hat hs3
      obtain ⟨d0, d1, d2, g0, g1, g2⟩ := cells3 hs3'
      have hsl : ∀ W, Src Tryd.prog 1 9 (.string (bs (lab sc))) 3 (Lib.byteCells (lab sc)) W := fun W => by have := src_str (lab sc) W; rw [lab_len] at this; exact this
      have hlb := label_any sc
      go_wp2_with (first | (go_at_call 22; refine (hlb _).mono ?_; rintro e w9 ⟨rfl, hq⟩; have hq' := hq.symm; subst hq') | (at_builtin; refine wpList_append_src by_info rfl Tryd.underlying58 (by decide) _ rfl _ _ rfl base (.slice y3 (acc.length + 3) c3) (acc.length + 3) (Lib.byteCells (acc ++ [32, 58, 32])) rfl (HU3.out.own (by simp)) (.string (bs (lab sc))) 3 (Lib.byteCells (lab sc)) rfl (hsl _) (by omega) (by omega) ?_; intro y4 c4 w4 hown hgrow hat; refine Hid.out ?_) | go_in)
      refine Lib.hid ?_
      have HU4 : Hid (Und w1 base v w4 (.slice y4 (acc.length + 3 + 3) c4) (acc ++ [32, 58, 32] ++ lab sc)) := HU3.out.app' (by simp) (lab_len _).symm hown hgrow hat
      have hz4 := HU4.out.len
      clear hown hgrow hat hsl hlb d0 d1 d2 g0 g1 g2
      go_wp2_with (first | (at_builtin; refine wpList_append_src by_info rfl Tryd.underlying58 (by decide) _ rfl _ _ rfl base (.slice y4 (acc.length + 3 + 3) c4) (acc.length + 3 + 3) (Lib.byteCells (acc ++ [32, 58, 32] ++ lab sc)) rfl ((HU4.out.alloc _).own (by simp [lab_len])) (.slice (some ⟨w4.heap.size, 0, none⟩) 1 1) 1 (Lib.byteCells [10]) rfl (src_at _ 10 10 _ rfl (by simp)) (by omega) (by simp; omega) ?_; intro y5 c5 w5 hown hgrow hat; refine Hid.out ?_) | go_in)
      refine Lib.hid ?_
      have HU5 : Hid (Und w1 base v w5 (.slice y5 (acc.length + 3 + 3 + 1) c5) (acc ++ [32, 58, 32] ++ lab sc ++ [10])) := (HU4.out.alloc _).app' (l2 := [10]) (by simp [lab_len]) rfl hown hgrow hat
      clear hown hgrow hat
      go_wp2
      go_ret
      have he : acc ++ [32, 58, 32] ++ lab sc ++ [10] = l ++ lineT ⟨nm, ps, sc⟩ := by rw [← HT.out, endT]; simp
      have hn : acc.length + 3 + 3 + 1 = (l ++ lineT ⟨nm, ps, sc⟩).length := by rw [← he]; simp [lab_len]
      have HF := HU5.out
      rw [he, hn] at HF
      refine ⟨⟨y5, c5, by rw [← hn]; rfl, HF.tx, ?_⟩, HK1.out.trans HF.kept⟩
      rcases HF.at_ with h | ⟨g, h1, h2⟩
      · exact .inl h
      · exact .inr ⟨g, h1, by omega⟩
end Go.Proofs.YtlagadofiahijaaDoor
