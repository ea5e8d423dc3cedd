/- Texts of this proof, put together: AppS. -/
import Derived.Test.YtbpdhegfdmppgaaGreatDoorRows
import Derived.Test.YtbpdhegfdmppgaaGreatDoorM2
import Derived.Deep.AppendSrc
import Derived.OwnWalk
import Derived.RegionTactic
import Derived.ProofKit

/- A STRING's BYTES APPENDED to a row of bytes that the call owns: a law for the walk, in a plain region and in one that draws its order. -/
namespace Go.Proofs.YtbpdhegfdmppgaaGreatDoor
open Go.RowKit

theorem info5s : (Tryz.prog.info? 5).map (fun i => (i.zero, i.size, i.bytes)) = some (some (.int .u8 0), 1, 1) := by kernel_rfl

theorem run_append_str (w : World) (ty : TypeId) (base : Nat) (v : Value) (n : Nat) (xs : List Value) (hown : w.ownsRow base 5 1 v n xs) (s : ByteArray) (hlen : n + s.size ≤ 1000000000000) (hbase : base ≤ w.heap.size) :
    ∃ x c w', (Builtin.append_ #[84, 9] ty #[v, .string s]).run Tryz.prog w = .ok (.slice x (n + s.size) c) w' ∧ w'.ownsRow base 5 1 (.slice x (n + s.size) c) (n + s.size) (xs ++ byteCells s) ∧ w.grownBy w' v.ownBlock ∧
      ((Value.slice x (n + s.size) c).ownBlock = v.ownBlock ∨ (Value.slice x (n + s.size) c).ownBlock = some w.heap.size) := by
  obtain ⟨i0, hi0, hz0, hz1, hz2⟩ := info_parts info5s
  have hx1 : xs.length = n := by simpa using hown.1
  have hbl := byteCells_length s
  have hl : (xs ++ byteCells s).length = (n + s.size) * 1 := by rw [List.length_append, hx1, hbl, Nat.mul_one]
  have hsrc : Src Tryz.prog i0.size 9 (.string s) s.size (byteCells s) w := by rw [hz1]; exact Src.ofString w Tryz.underlying9 s
  have grown : ∀ (old : Nat), old < n + s.size → ∀ (row : Option Nat),
      (w.drew.alloc (.cells ((xs ++ byteCells s).toArray ++ Builtin.zeroCells (Value.int .u8 0).cells (grownCap w (n + s.size) old 5 - (n + s.size))) 5)).ownsRow base 5 1
        (.slice (some ⟨w.heap.size, 0, none⟩) (n + s.size) (grownCap w (n + s.size) old 5)) (n + s.size) (xs ++ byteCells s) ∧
      w.grownBy (w.drew.alloc (.cells ((xs ++ byteCells s).toArray ++ Builtin.zeroCells (Value.int .u8 0).cells (grownCap w (n + s.size) old 5 - (n + s.size))) 5)) row := by
    intro old ho row
    have hge := grownCap_ge w (n + s.size) old 5
    have hcm : grownCap w (n + s.size) old 5 ≤ maxLen := grownCap_le_maxLen w (n + s.size) old 5 (by unfold maxLen; omega)
    refine ⟨⟨hl, .inr ⟨w.heap.size, _, _, rfl, hbase, heap_alloc_new w.drew _, hge, hcm, ?_, ?_⟩⟩, ⟨rfl, rfl, rfl, by simp, fun k hk _ => heap_alloc_old w.drew _ hk⟩⟩
    · have hc1 : (Value.int .u8 0).cells.size = 1 := rfl
      simp only [Array.size_append, List.size_toArray, size_zeroCells, hl, hc1]
      omega
    · rw [Array.toList_append, ← hl]
      exact List.take_left
  have fits : ∀ old, old < n + s.size → old ≤ 1000000000000 → Builtin.nextslicecap (n + s.size) old * i0.bytes ≤ 281474976710656 := by
    intro old ho hb
    rw [hz2]
    exact growslice_fits (bytes := 1) (by omega) (by omega)
  rcases hown.2 with ⟨rfl, rfl⟩ | ⟨g, cap, cur, rfl, hbg, hg, hnc, hcm, hcs, htake⟩
  · have hx : xs = [] := List.eq_nil_of_length_eq_zero (by simpa using hown.1)
    subst hx
    by_cases hm : s.size = 0
    · have hb : byteCells s = [] := List.eq_nil_of_length_eq_zero (by omega)
      refine ⟨none, 0, w, ?_, by rw [hm, hb]; exact World.ownsRow_nil w base 5 1, ⟨rfl, rfl, rfl, Nat.le_refl _, fun _ _ _ => rfl⟩, Or.inl (by rw [hm])⟩
      have hf := firstCells_string (P := Tryz.prog) s w
      rw [hm] at hf
      simp [Builtin.append_, run_underlying Tryz.underlying84, run_underlying Tryz.underlying9, sizeOf, typeInfo, hi0, hz1, Builtin.lenOf, hm, hf]
    · have hr := run_append_grow_src (P := Tryz.prog) w 84 9 ty 5 i0 _ Tryz.underlying84 hi0 hz0 none 0 0 [] (by rw [hz1]; exact run_firstCells_none w.drew 1 0 0 0) (.string s) s.size _ hsrc (by omega) (by omega) (by simpa using fits 0 (by omega) (by omega))
      have hgr := grown 0 (by omega) (Value.ownBlock (.slice none 0 0))
      simp only [Nat.zero_add, List.nil_append] at hgr hr ⊢
      exact ⟨_, _, _, hr, hgr.1, hgr.2, Or.inr rfl⟩
  · by_cases hroom : n + s.size ≤ cap
    · have hst := run_storeCells_at Tryz.prog g (n * i0.size) 5 (byteCells s) 0 cur w hg (by rw [hz1, hbl]; omega) hsrc.one
      simp only [Nat.add_zero] at hst
      have hr : (Builtin.append_ #[84, 9] ty #[.slice (some ⟨g, 0, none⟩) n cap, .string s]).run Tryz.prog w = .ok (.slice (some ⟨g, 0, none⟩) (n + s.size) cap) (w.setRow g (cur.toList.take (n * i0.size) ++ byteCells s ++ cur.toList.drop (n * i0.size + (byteCells s).length)).toArray) := by
        simp [Builtin.append_, run_underlying Tryz.underlying84, run_underlying Tryz.underlying9, sizeOf, typeInfo, hi0, Builtin.lenOf, hroom, hsrc.cells, Addr.add_lit, hst]
      refine ⟨_, _, _, hr, ⟨hl, .inr ⟨g, cap, _, rfl, hbg, setRow_heap w g cur _ 5 _ hg, hroom, hcm, ?_, ?_⟩⟩, ⟨rfl, rfl, rfl, by simp, fun k _ hk => setRow_other w g k _ (fun e => hk (by simp [Value.ownBlock, e]))⟩, Or.inl rfl⟩
      · simp only [List.size_toArray, List.length_append, List.length_take, List.length_drop, Array.length_toList, hz1, hbl]
        omega
      · rw [hz1, htake, ← hl]
        exact List.take_left
    · have holds : ∀ j u, xs[j]? = some u → w.drew.cell? ((⟨g, 0, none⟩ : Addr).add j) = some u := hown.cells (g := g) rfl
      have hr := run_append_grow_src (P := Tryz.prog) w 84 9 ty 5 i0 _ Tryz.underlying84 hi0 hz0 (some ⟨g, 0, none⟩) n cap xs (by rw [hz1]; exact run_firstCells_some w.drew 1 n ⟨g, 0, none⟩ n cap xs hown.1 holds) (.string s) s.size _ hsrc (by omega) (by omega) (fits cap (by omega) (by omega))
      have hgr := grown cap (by omega) (Value.ownBlock (.slice (some ⟨g, 0, none⟩) n cap))
      exact ⟨_, _, _, hr, hgr.1, hgr.2, Or.inr rfl⟩

/-- At a step of a region that draws its order. -/
theorem step_append_str {ops : Array Oper} {o : Oper} {a : Act} {w : World} {K : Act → World → Prop} {Q : Exit → Act → World → Prop} {E : Prop} (hgd : o.guard = none) (s x : Operand)
    (ho : o.op = .call { callee := .builtin .append, args := #[s, x], argTypes := #[84, 9] }) (base : Nat) (v : Value) (n : Nat) (xs : List Value) (hs : a.eval s = v) (hown : w.ownsRow base 5 1 v n xs)
    (b : ByteArray) (hx : a.eval x = .string b) (hlen : n + b.size ≤ 1000000000000) (hbase : base ≤ w.heap.size)
    (h : ∀ y c w', w'.ownsRow base 5 1 (.slice y (n + b.size) c) (n + b.size) (xs ++ byteCells b) → w.grownBy w' v.ownBlock → ((Value.slice y (n + b.size) c).ownBlock = v.ownBlock ∨ (Value.slice y (n + b.size) c).ownBlock = some w.heap.size) → K (a.put o.dst (.slice y (n + b.size) c)) w') :
    if Region.wanted o (yielded ops a.tmps) = true then Oper.wp Tryz.prog o a w K Q else E := by
  have hw : Region.wanted o (yielded ops a.tmps) = true := by simp [Region.wanted, hgd]
  rw [if_pos hw]
  obtain ⟨y, c, w', hr, h2, h3, h4⟩ := run_append_str w o.type base v n xs hown b hlen hbase
  unfold Oper.wp execOp
  simp only [ho, resolve, invoke, builtin, Sem.run_bind, Sem.run_pure, Result.andThen_ok, List.map_toArray, List.map_cons, List.map_nil, hs, hx, hr]
  exact h y c w' h2 h3 h4
end Go.Proofs.YtbpdhegfdmppgaaGreatDoor
