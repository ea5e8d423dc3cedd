/- CONTRACTS of slices.Backward at instructions: its iterator gives all places, from the last one on. -/
import Derived.Test.YtndmkfmpdnoliaaDSet
import Derived.RangeFuncNested
import Derived.RangeFuncLeaves
import Derived.Shelf.Abstract
import Derived.WalkKit
import Derived.OwnWalkIn
import Derived.TacticsInMore
import Derived.LoopNIn
import Derived.LoopIn
namespace Go.Proofs.Ytndmkfmpdnoliaa
open Go.ChangeShapes Go.WideShapes Go.ChangeAt Go.RowKit Go.Shelf

attribute [local go_sem] Oper.semAt_some

/-- Instructions that lie in a row, with where each one's arguments lie. -/
def RowF (w : World) (S : Nat → Prop) (a : Option Addr) (l : List Ir) (f : Nat → Option Addr × Nat) : Prop :=
  ∀ k (h : k < l.length), ∃ b o, a = some ⟨b, o, none⟩ ∧ S b ∧ b < w.heap.size ∧ IrAt w b (o + k * 9) l[k] (f k).1 (f k).2 ∧ l[k].args.length ≤ (f k).2 ∧ l[k].n < 4294967296 ∧ kInt.row w S (f k).1 l[k].args
theorem row_f {w : World} {S : Nat → Prop} {a : Option Addr} {l : List Ir} (h : kIr.row w S a l) : ∃ f, RowF w S a l f := by
  have one : ∀ k, ∃ p : Option Addr × Nat, ∀ h : k < l.length, ∃ b o, a = some ⟨b, o, none⟩ ∧ S b ∧ b < w.heap.size ∧ IrAt w b (o + k * 9) l[k] p.1 p.2 ∧ l[k].args.length ≤ p.2 ∧ l[k].n < 4294967296 ∧ kInt.row w S p.1 l[k].args := fun k => by
    by_cases hk : k < l.length
    · obtain ⟨b, o, ga, gc, h1, h2, h3, h4, h5, h6, h7⟩ := ir_at h k hk
      exact ⟨(ga, gc), fun _ => ⟨b, o, h1, h2, h3, h4, h5, h6, h7⟩⟩
    · exact ⟨(none, 0), fun h => absurd h hk⟩
  exact ⟨fun k => Classical.choose (one k), fun k hk => Classical.choose_spec (one k) hk⟩
/-- A place. -/
abbrev Pl (n : Nat) := { k : Nat // k < n }
/-- So many places from the last one on. -/
def downs (n : Nat) : Nat → List (Pl n)
  | 0 => []
  | m + 1 => downs n m ++ (if h : m < n then [⟨n - 1 - m, by omega⟩] else [])
theorem downs_len (n : Nat) : ∀ m, m ≤ n → (downs n m).length = m
  | 0, _ => rfl
  | m + 1, h => by rw [downs, List.length_append, downs_len n m (by omega), dif_pos (by omega)]; rfl
theorem downs_succ (n m k : Nat) (h : k + 1 + m = n) : downs n (m + 1) = downs n m ++ [⟨k, by omega⟩] := by
  rw [downs, dif_pos (by omega)]
  congr 2
  exact Subtype.ext (by show n - 1 - m = k; omega)
def encP (l : List Ir) (f : Nat → Option Addr × Nat) (x : Pl l.length) : Array Value := #[.int .i64 (x.1 : Int), irV (l[x.1]'x.2) (f x.1).1 (f x.1).2]
/-- What a round keeps. -/
def KpB (n₀ Bs : Nat) (W W' : World) : Prop := Below n₀ W W' ∧ W'.heap[Bs]? = W.heap[Bs]?
theorem KpB.trans {n₀ Bs : Nat} {A B C : World} (h : KpB n₀ Bs A B) (k : KpB n₀ Bs B C) : KpB n₀ Bs A C := ⟨h.1.trans k.1, k.2.trans h.2⟩

set_option maxRecDepth 100000 in
set_option maxHeartbeats 2000000 in
theorem back1_in {F : Fence} {n : Nat} (hF : F.fn 78) (hro : F.round = none) (hn : 1 ≤ n) {lp Bs n₀ cap : Nat} {a : Option Addr} {l : List Ir} {f : Nat → Option Addr × Nat} (hl : l.length ≤ 1000000) (J Jx : List (Pl l.length) → World → Prop)
    (hY : ∀ pre x W, J pre W → pre.length < l.length → YieldAt F (n - 1) Try.prog lp (encP l f x) W fun e W' =>
      (e = .returned (.bool true) ∧ J (pre ++ [x]) W' ∧ KpB n₀ Bs W W') ∨ (e = .returned (.bool false) ∧ Jx (pre ++ [x]) W'))
    (W : World) (hBs : W.cell? ⟨Bs, 0, none⟩ = some (.slice a l.length cap)) (hc : ∀ k (h : k < l.length), ∃ b o, a = some ⟨b, o, none⟩ ∧ b < n₀ ∧ IrAt W b (o + k * 9) l[k] (f k).1 (f k).2) (h0 : J [] W) :
    CallsIn F n Try.prog 78 #[.func (.yield lp) #[] #[], .pointer (some ⟨Bs, 0, none⟩)] W fun e W' => (∃ v, e = .returned v) ∧
      ((∃ ys, ys = downs l.length l.length ∧ J ys W') ∨ (∃ pre, True ∧ Jx pre W')) := by
  refine callsIn_of_wp Try.func78 rfl hF ?_ hro
  simp only [Try.ntmps78, List.size_toArray, List.length_cons, List.length_nil, Nat.reduceAdd, Nat.reduceSub, Array.replicate_succ, Array.replicate_zero, List.push_toArray, List.append_toArray, List.nil_append, List.cons_append]
  gi_wp2
  gi_loopw [3] (fun i wr => ∃ m : Nat, m ≤ l.length ∧ i = .int .i64 ((l.length : Int) - 1 - m) ∧ J (downs l.length m) wr ∧ KpB n₀ Bs W wr)
    (fun i _ => (intOf i + 1).toNat)
  case atStart => exact ⟨0, Nat.zero_le _, by simp, h0, Below.refl _ _, rfl⟩
  case round =>
    obtain ⟨m, hm, rfl, hJs, hk1, hk2⟩ := hrel
    have hBr : wr.cell? ⟨Bs, 0, none⟩ = some (.slice a l.length cap) := by rw [World.cell?_of_block hk2]; exact hBs
    by_cases hlt : m < l.length
    · obtain ⟨k, hk⟩ : ∃ k : Nat, k + 1 + m = l.length := ⟨l.length - 1 - m, by omega⟩
      have hkl : k < l.length := by omega
      have ek : (l.length : Int) - 1 - m = (k : Int) := by omega
      rw [ek]
      obtain ⟨b, o, rfl, hb, hia⟩ := hc k hkl
      obtain ⟨e0, e1, e2, e3, e4, e5, e6, e7, e8⟩ := hia.keep (hk1.block b hb)
      obtain ⟨fn, tmps, assign, body, hy, hR⟩ := hY _ ⟨k, hkl⟩ wr hJs (by rw [downs_len _ _ hm]; exact hlt)
      simp only [encP, irV] at hy
      have hk0 : (0 : Int) ≤ (k : Int) := by omega
      gi_wp2
      refine hR.mono ?_
      rintro e W3 (⟨rfl, hJ3, hk3⟩ | ⟨rfl, hJx3⟩)
      · gi_wp2
        go_roundw
        case rel => exact ⟨m + 1, by omega, by have : (l.length : Int) - 1 - ((m + 1 : Nat) : Int) = (k : Int) - 1 := by omega
                                               rw [this], by rw [downs_succ _ _ k hk]; exact hJ3, KpB.trans ⟨hk1, hk2⟩ hk3⟩
        case measure => simp [intOf]
      · gi_wp2
        refine bodyPost_ret (results_none rfl _ _ _) rfl ?_
        exact ⟨⟨_, rfl⟩, .inr ⟨_, trivial, hJx3⟩⟩
    · obtain rfl : m = l.length := by omega
      have en : (l.length : Int) - 1 - (l.length : Int) = -1 := by omega
      rw [en]
      gi_wp2
      go_end0
      exact ⟨⟨_, rfl⟩, .inl ⟨_, rfl, hJs⟩⟩
set_option maxHeartbeats 1000000 in
theorem back_in {F : Fence} {n : Nat} (hF : F.fn 60) (hro : F.round = none) (a : Option Addr) (len cap : Nat) (w : World) :
    CallsIn F n Try.prog 60 #[.slice a len cap] w fun e w' => e = .returned (.func (.func 78) #[] #[.pointer (some ⟨w.heap.size, 0, none⟩)]) ∧ w' = w.alloc (.cells #[.slice a len cap] 37) := by
  refine callsIn_of_wp Try.func60 rfl hF ?_ hro
  simp only [Try.ntmps60, List.size_toArray, List.length_cons, List.length_nil, Nat.reduceAdd, Nat.reduceSub, Array.replicate_succ, Array.replicate_zero, List.push_toArray, List.append_toArray, List.nil_append, List.cons_append]
  gi_wp2
  go_ret
  exact ⟨rfl, rfl⟩
theorem back_stops {F : Fence} {n : Nat} (hF : F.fn 78) (hro : F.round = none) (hn : 1 ≤ n) {Bs n₀ cap : Nat} {a : Option Addr} {l : List Ir} {f : Nat → Option Addr × Nat} (hl : l.length ≤ 1000000) (w : World) (hBs : Bs < w.heap.size) (hn₀ : n₀ ≤ w.heap.size)
    (hb : w.cell? ⟨Bs, 0, none⟩ = some (.slice a l.length cap)) (hc : ∀ k (h : k < l.length), ∃ b o, a = some ⟨b, o, none⟩ ∧ b < n₀ ∧ IrAt w b (o + k * 9) l[k] (f k).1 (f k).2) :
    SeqStopsK F n Try.prog 78 #[.pointer (some ⟨Bs, 0, none⟩)] (encP l f) (KpB n₀ Bs) (fun ys => ys = downs l.length l.length) (fun _ => True) l.length w := fun lp J Jx W hW _ _ hY h0 =>
  back1_in hF hro hn hl J Jx hY W ((hW.cell (p := ⟨Bs, 0, none⟩) hBs).trans hb) (fun k hk => by
    obtain ⟨b, o, h1, h2, h3⟩ := hc k hk
    exact ⟨b, o, h1, h2, h3.keep (hW.block b (Nat.lt_of_lt_of_le h2 hn₀))⟩) h0
end Go.Proofs.Ytndmkfmpdnoliaa
