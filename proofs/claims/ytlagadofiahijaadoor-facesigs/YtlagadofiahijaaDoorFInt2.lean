/- CONTRACT of strconv.AppendInt at 1 to 16, in base 10: the ways down to its digits. -/
import Derived.Test.YtlagadofiahijaaDoorFInt
namespace Go.Proofs.YtlagadofiahijaaDoor
open Go.ChangeShapes Go.WideShapes Go.ChangeAt Go.RowKit Go.Shelf

theorem bytes_bs (l : List UInt8) : byteCells (bs l) = Lib.byteCells l := by simp [byteCells, Lib.byteCells, bs]
theorem src_str (l : List UInt8) (w : World) : Src Tryd.prog 1 9 (.string (bs l)) l.length (Lib.byteCells l) w := by
  have := Src.ofString (P := Tryd.prog) w (tx := 9) Tryd.underlying9 (bs l)
  rw [bytes_bs, bs_size] at this
  exact this
/-- A text under way. -/
def Tx (w : World) (base : Nat) (v : Value) (l : List UInt8) : Prop := w.ownsRow base 5 1 v l.length (Lib.byteCells l)
/-- Behind something that writes to it alone. -/
structure Wrote (base : Nat) (v : Value) (l : List UInt8) (w : World) (e : Ending) (w' : World) : Prop where
  ok : ∃ y c, e = .returned (.slice y l.length c) ∧ Tx w' base (.slice y l.length c) l ∧ ((Value.slice y l.length c).ownBlock = v.ownBlock ∨ ∃ g, (Value.slice y l.length c).ownBlock = some g ∧ w.heap.size ≤ g)
  kept : Kept (fun k => v.ownBlock = some k) w w'

theorem wrote_of {w w2 : World} {base : Nat} {v : Value} {l l2 : List UInt8} {y : Option Addr} {c : Nat} (hown : w2.ownsRow base 5 1 (.slice y (l.length + l2.length) c) (l.length + l2.length) (Lib.byteCells l ++ Lib.byteCells l2)) (hgrow : w.grownBy w2 v.ownBlock)
    (hat : (Value.slice y (l.length + l2.length) c).ownBlock = v.ownBlock ∨ (Value.slice y (l.length + l2.length) c).ownBlock = some w.heap.size) : Wrote base v (l ++ l2) w (.returned (.slice y (l.length + l2.length) c)) w2 := by
  refine ⟨⟨y, c, by rw [List.length_append], ?_, ?_⟩, Kept.of_grown hgrow⟩
  · unfold Tx
    rw [List.length_append, show Lib.byteCells (l ++ l2) = Lib.byteCells l ++ Lib.byteCells l2 from List.map_append]
    exact hown
  · rw [List.length_append]
    rcases hat with h | h
    · exact .inl h
    · exact .inr ⟨_, h, Nat.le_refl _⟩
theorem Wrote.same {base : Nat} {v : Value} {l : List UInt8} {w : World} {e e' : Ending} {w' : World} (h : Wrote base v l w e w') (he : e' = e) : Wrote base v l w e' w' := by rw [he]; exact h

set_option maxRecDepth 100000 in
set_option maxHeartbeats 1000000 in
theorem appendUint_any {base : Nat} {v : Value} {l : List UInt8} {w : World} (i : Nat) (h1 : 1 ≤ i) (h2 : i ≤ 16) (h : Tx w base v l) (hb : base ≤ w.heap.size) (hl : l.length ≤ 500000000) :
    Calls Tryd.prog 33 #[v, .int .u64 i, .int .i64 10] w (Wrote base v (l ++ Lib.decDigits i) w) := by
  have hs := small_any i h1 h2
  have hd : (Lib.decDigits i).length ≤ 2 := by rw [dig_eq i h2]; unfold dig; split <;> simp
  have hsrc := src_str (Lib.decDigits i)
  have hlt : (i : Int) < 100 := by omega
  have hwf : wrap64 (i : Int) = i := by unfold wrap64; omega
  go_enter Tryd.func33, Tryd.ntmps33
  go_wp2_with (first | (go_at_call 42; refine (hs _).mono ?_; rintro e w1 ⟨rfl, hq⟩; have hq' := hq.symm; subst hq') | (at_builtin; refine wpList_append_src by_info rfl Tryd.underlying58 (by decide) _ rfl _ _ rfl base v l.length (Lib.byteCells l) rfl h _ (Lib.decDigits i).length (Lib.byteCells (Lib.decDigits i)) rfl (hsrc _) (by omega) hb ?_; intro y c w2 hown hgrow hat; refine Hid.out ?_) | go_in)
  refine Lib.hid ?_
  have HW : Hid (Wrote base v (l ++ Lib.decDigits i) w (.returned (.slice y (l.length + (Lib.decDigits i).length) c)) w2) := wrote_of hown hgrow hat
  clear hown hgrow hat
  go_wp2
  go_ret
  exact HW.out

set_option maxRecDepth 100000 in
set_option maxHeartbeats 1000000 in
theorem appendInt2_any {base : Nat} {v : Value} {l : List UInt8} {w : World} (i : Nat) (h1 : 1 ≤ i) (h2 : i ≤ 16) (h : Tx w base v l) (hb : base ≤ w.heap.size) (hl : l.length ≤ 500000000) :
    Calls Tryd.prog 28 #[v, .int .i64 i, .int .i64 10] w (Wrote base v (l ++ Lib.decDigits i) w) := by
  have hc := appendUint_any i h1 h2 h hb hl
  have hneg : ¬ (i : Int) < 0 := by omega
  go_enter Tryd.func28, Tryd.ntmps28
  go_wp2_with (go_at_call 33; refine hc.mono ?_; rintro e w1 hw; obtain ⟨y, c, rfl, h3⟩ := hw.ok; have HW : Hid _ := hw; clear hw h3)
  go_ret
  exact HW.out.same (by rw [List.length_append]; rfl)

set_option maxRecDepth 100000 in
set_option maxHeartbeats 1000000 in
theorem appendInt_any {base : Nat} {v : Value} {l : List UInt8} {w : World} (i : Nat) (h1 : 1 ≤ i) (h2 : i ≤ 16) (h : Tx w base v l) (hb : base ≤ w.heap.size) (hl : l.length ≤ 500000000) :
    Calls Tryd.prog 23 #[v, .int .i64 i, .int .i64 10] w (Wrote base v (l ++ Lib.decDigits i) w) := by
  have hc := appendInt2_any i h1 h2 h hb hl
  go_enter Tryd.func23, Tryd.ntmps23
  go_wp2_with (go_at_call 28; refine hc.mono ?_; rintro e w1 hw; obtain ⟨y, c, rfl, h3⟩ := hw.ok; have HW : Hid _ := hw; clear hw h3)
  go_ret
  exact HW.out.same (by rw [List.length_append]; rfl)
end Go.Proofs.YtlagadofiahijaaDoor
