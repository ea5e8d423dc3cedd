/- THE REFERENCE'S RUN IN MEMORY: its runner, its registers and cells. -/
import Derived.Test.YtndmkfmpdnoliaaIRFind
import Derived.Test.YtndmkfmpdnoliaaIRBegin
import Derived.Test.YtndmkfmpdnoliaaIApp2
import Derived.Test.YtndmkfmpdnoliaaGROp
namespace Go.Proofs.Ytndmkfmpdnoliaa
open Go.ChangeShapes Go.WideShapes Go.ChangeAt Go.RowKit

theorem look_find : ∀ (l : List Co) (nm : List UInt8) (k : Nat), (look l nm = none ∧ findI l nm k = -1) ∨ ∃ (j : Nat) (h : j < l.length), look l nm = some l[j] ∧ findI l nm k = ((k + j : Nat) : Int)
  | [], _, _ => .inl ⟨rfl, rfl⟩
  | c :: l, nm, k => by
    by_cases h : c.name = nm
    · refine .inr ⟨0, by simp, ?_, ?_⟩
      · simp [look, h]
      · rw [findI, if_pos h]; rfl
    · have e1 : look (c :: l) nm = look l nm := by simp [look, h]
      have e2 : findI (c :: l) nm k = findI l nm (k + 1) := by rw [findI, if_neg h]
      rcases look_find l nm (k + 1) with ⟨h1, h2⟩ | ⟨j, hj, h1, h2⟩
      · exact .inl ⟨by rw [e1]; exact h1, by rw [e2]; exact h2⟩
      · exact .inr ⟨j + 1, by simp; omega, by rw [e1]; simpa using h1, by rw [e2, h2]; congr 1; omega⟩
abbrev runO (s : Value) (st : St) (v : Value) : Obj := .cells #[s, .int .i64 (st.left : Int), v, .int .i64 st.wrong] 72
/-- The runner lies in R. -/
structure RM (R : Nat) (s : Value) (st : St) (v : Value) (w : World) : Prop where
  r : w.heap[R]? = some (runO s st v)
  own : w.ownsRow (R + 1) 3 1 v st.br.length (st.br.map (Value.int .i64))
  left : st.left ≤ 60000
  br : st.br.length + st.left ≤ 60000
theorem RM.lt {R : Nat} {s : Value} {st : St} {v : Value} {w : World} (h : RM R s st v w) : ∀ k, v.ownBlock = some k → R < k ∧ k < w.heap.size := fun k e => by
  rcases h.own.2 with ⟨rfl, _⟩ | ⟨g, cap, cur, rfl, h1, h2, _⟩
  · cases e
  · have : g = k := Option.some.inj e
    subst this
    exact ⟨h1, lt_of_some h2⟩
/-- What a call may touch. -/
abbrev TR (R : Nat) (v : Value) (k : Nat) : Prop := k = R ∨ v.ownBlock = some k
theorem RM.keep {R : Nat} {s : Value} {st : St} {v : Value} {w w' : World} (h : RM R s st v w) {M : Nat → Prop} (hk : Kept M w w') (h1 : ¬ M R) (h2 : ∀ k, v.ownBlock = some k → ¬ M k) : RM R s st v w' :=
  ⟨(hk.block R (lt_of_some h.r) h1).trans h.r, own_kept h.own hk h2, h.left, h.br⟩
theorem RM.wrong {R : Nat} {s : Value} {st : St} {v : Value} {w : World} (h : RM R s st v w) (e : Int) : RM R s { st with wrong := e } v (w.setCell ⟨R, 3, none⟩ (.int .i64 e)) := by
  refine ⟨?_, own_kept h.own (Kept.set w R 3 _) fun k hk hm => ?_, h.left, h.br⟩
  · rw [setCell_at h.r]; rfl
  · have := (h.lt k hk).1; omega
theorem RM.down {R : Nat} {s : Value} {st : St} {v : Value} {w : World} (h : RM R s st v w) (n : Nat) (hn : n ≤ st.left) : RM R s { st with left := n } v (w.setCell ⟨R, 1, none⟩ (.int .i64 (n : Int))) := by
  have h1 := h.left
  have h2 := h.br
  refine ⟨?_, own_kept h.own (Kept.set w R 1 _) fun k hk hm => ?_, by show n ≤ 60000; omega, by show st.br.length + n ≤ 60000; omega⟩
  · rw [setCell_at h.r]; rfl
  · have := (h.lt k hk).1; omega
theorem RM.push {R : Nat} {s : Value} {st : St} {v : Value} {w w0 w1 : World} (h : RM R s st v w) (hk : Kept (fun _ => False) w w0) {y : Option Addr} {c1 : Nat} (b : Int) (hown : w1.ownsRow (R + 1) 3 1 (.slice y (st.br.length + 1) c1) (st.br.length + 1) (st.br.map (Value.int .i64) ++ [.int .i64 b])) (hg : w0.grownBy w1 v.ownBlock) (hb : st.br.length + 1 + st.left ≤ 60000) :
    RM R s { st with br := st.br ++ [b] } (.slice y (st.br.length + 1) c1) (w1.setCell ⟨R, 2, none⟩ (.slice y (st.br.length + 1) c1)) := by
  have hs := hk.size
  have hR := lt_of_some h.r
  have h1 : w1.heap[R]? = some (runO s st v) := (hg.block R (by omega) fun e => by have := (h.lt R e.symm).1; omega).trans ((hk.block R hR (fun e => e)).trans h.r)
  refine ⟨by rw [setCell_at h1]; rfl, ?_, h.left, by simp; omega⟩
  have := own_kept hown (Kept.set w1 R 2 (.slice y (st.br.length + 1) c1)) fun k hk hm => by
    rcases hown.2 with ⟨e1, _⟩ | ⟨g, cap, cur, e1, h3, _⟩
    · rw [e1] at hk; cases hk
    · rw [e1] at hk; have h4 : g = k := Option.some.inj hk; omega
  simpa using this
/-- A function that is being run: its code's box B, its registers and cells. -/
structure RS (w0 : World) (v0 : Value) (R B : Nat) (s : Value) (c : Co) (O : Obj) (st : St) (fr : Fr) (v : Value) (w : World) : Prop where
  rm : RM R s st v w
  box : w.heap[B]? = some O
  g : w.heap[B + 2]? = some (.cells (wvs fr.regs) 26)
  cc : w.heap[B + 3]? = some (.cells (wvs fr.cells) 26)
  va : ∀ k, v.ownBlock = some k → k < B ∨ B + 4 ≤ k
  rb : R < B
  wb : w0.heap.size ≤ B
  rl : (fr.regs.length : Int) = c.regs
  cl : (fr.cells.length : Int) = c.cells
  regs : ∀ n ∈ fr.regs, n < 4294967296
  cells : ∀ n ∈ fr.cells, n < 4294967296
  kept : Kept (TR R v0) w0 w
  fresh : Fresh w0 v0 v
section
variable {w0 : World} {v0 : Value} {R B : Nat} {s : Value} {c : Co} {O : Obj} {st st' : St} {fr : Fr} {v v' : Value} {w w' : World}
theorem RS.frame (h : RS w0 v0 R B s c O st fr v w) (n : Nat) : RS w0 v0 R B s c O st { fr with next := n } v w := ⟨h.rm, h.box, h.g, h.cc, h.va, h.rb, h.wb, h.rl, h.cl, h.regs, h.cells, h.kept, h.fresh⟩
/-- The runner goes on, the frame stays. -/
theorem RS.on (h : RS w0 v0 R B s c O st fr v w) (hr : RM R s st' v' w') (hk : Kept (TR R v) w w') (hf : Fresh w v v') : RS w0 v0 R B s c O st' fr v' w' := by
  have hC := lt_of_some h.cc
  have hrb := h.rb
  have hn : ∀ k, B ≤ k → k ≤ B + 3 → ¬ TR R v k := fun k h1 h2 e => by
    rcases e with e | e
    · omega
    · have := h.va k e; omega
  have hs := h.kept.size
  refine ⟨hr, (hk.block _ (by omega) (hn _ (by omega) (by omega))).trans h.box, (hk.block _ (by omega) (hn _ (by omega) (by omega))).trans h.g, (hk.block _ (by omega) (hn _ (by omega) (by omega))).trans h.cc, fun k e => ?_, h.rb, h.wb, h.rl, h.cl, h.regs, h.cells, ⟨hk.os.trans h.kept.os, hk.tape.trans h.kept.tape, hk.output.trans h.kept.output, Nat.le_trans h.kept.size hk.size, fun i hi hm => ?_⟩, fun k e => ?_⟩
  · rcases hf k e with e1 | e1
    · exact h.va k e1
    · right; omega
  · rw [hk.block i (by omega) ?_]
    · exact h.kept.block i hi hm
    · rintro (e | e)
      · exact hm (.inl e)
      · rcases h.fresh i e with e1 | e1
        · exact hm (.inr e1)
        · omega
  · rcases hf k e with e1 | e1
    · exact h.fresh k e1
    · right; omega
theorem RS.alloc (h : RS w0 v0 R B s c O st fr v w) (o : Obj) : RS w0 v0 R B s c O st fr v (w.alloc o) :=
  h.on (h.rm.keep (Kept.alloc w o (fun _ => False)) (fun e => e) (fun _ _ e => e)) (Kept.alloc w o _) (fun _ e => .inl e)
theorem RS.reg (h : RS w0 v0 R B s c O st fr v w) (k n : Nat) (hn : n < 4294967296) : RS w0 v0 R B s c O st { fr with regs := fr.regs.set k n } v (w.setCell ⟨B + 2, k, none⟩ (.int .u32 (n : Int))) := by
  have hk := Kept.set w (B + 2) k (.int .u32 (n : Int))
  have hrb := h.rb
  have hwb := h.wb
  refine ⟨h.rm.keep hk (by omega) fun j e => by have := h.va j e; omega, (setCell_other (by omega)).trans h.box, ?_, (setCell_other (by omega)).trans h.cc, h.va, h.rb, h.wb, by simpa using h.rl, h.cl, fun m hm => ?_, h.cells, h.kept.set_new _ _ _ (by omega), h.fresh⟩
  · rw [setCell_at h.g]
    exact congrArg (fun z => some (Obj.cells z 26)) (wvs_set fr.regs k n)
  · rcases List.mem_or_eq_of_mem_set hm with e | e
    · exact h.regs m e
    · rw [e]; exact hn
theorem RS.cell (h : RS w0 v0 R B s c O st fr v w) (k n : Nat) (hn : n < 4294967296) : RS w0 v0 R B s c O st { fr with cells := fr.cells.set k n } v (w.setCell ⟨B + 3, k, none⟩ (.int .u32 (n : Int))) := by
  have hk := Kept.set w (B + 3) k (.int .u32 (n : Int))
  have hrb := h.rb
  have hwb := h.wb
  refine ⟨h.rm.keep hk (by omega) fun j e => by have := h.va j e; omega, (setCell_other (by omega)).trans h.box, (setCell_other (by omega)).trans h.g, ?_, h.va, h.rb, h.wb, h.rl, by simpa using h.cl, h.regs, fun m hm => ?_, h.kept.set_new _ _ _ (by omega), h.fresh⟩
  · rw [setCell_at h.cc]
    exact congrArg (fun z => some (Obj.cells z 26)) (wvs_set fr.cells k n)
  · rcases List.mem_or_eq_of_mem_set hm with e | e
    · exact h.cells m e
    · rw [e]; exact hn
theorem RS.wrong (h : RS w0 v0 R B s c O st fr v w) (e : Int) : RS w0 v0 R B s c O { st with wrong := e } fr v (w.setCell ⟨R, 3, none⟩ (.int .i64 e)) :=
  h.on (h.rm.wrong e) ((Kept.set w R 3 _).mono fun _ _ e => .inl e) (fun _ e => .inl e)
theorem RS.down (h : RS w0 v0 R B s c O st fr v w) (n : Nat) (hn : n ≤ st.left) : RS w0 v0 R B s c O { st with left := n } fr v (w.setCell ⟨R, 1, none⟩ (.int .i64 (n : Int))) :=
  h.on (h.rm.down n hn) ((Kept.set w R 1 _).mono fun _ _ e => .inl e) (fun _ e => .inl e)
theorem RS.push (h : RS w0 v0 R B s c O st fr v w) {wa w1 : World} (hk : Kept (fun _ => False) w wa) {y : Option Addr} {c1 : Nat} (b : Int) (hown : w1.ownsRow (R + 1) 3 1 (.slice y (st.br.length + 1) c1) (st.br.length + 1) (st.br.map (Value.int .i64) ++ [.int .i64 b])) (hg : wa.grownBy w1 v.ownBlock) (hat : (Value.slice y (st.br.length + 1) c1).ownBlock = v.ownBlock ∨ (Value.slice y (st.br.length + 1) c1).ownBlock = some wa.heap.size) (hb : st.br.length + 1 + st.left ≤ 60000) :
    RS w0 v0 R B s c O { st with br := st.br ++ [b] } fr (.slice y (st.br.length + 1) c1) (w1.setCell ⟨R, 2, none⟩ (.slice y (st.br.length + 1) c1)) := by
  refine h.on (h.rm.push hk b hown hg hb) (((hk.mono fun _ _ e => e.elim).trans ((Kept.of_grown hg).mono fun _ _ e => .inr e)).trans ((Kept.set w1 R 2 _).mono fun _ _ e => .inl e)) fun k e => ?_
  have hs := hk.size
  rcases hat with e1 | e1
  · exact .inl (e1 ▸ e)
  · rw [e1] at e; have := Option.some.inj e; right; omega
end
end Go.Proofs.Ytndmkfmpdnoliaa
