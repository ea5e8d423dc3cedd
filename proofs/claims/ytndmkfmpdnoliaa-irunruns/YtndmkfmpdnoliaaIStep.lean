/- What a run leans on; CONTRACT of step, given what a deed does. -/
import Derived.Test.YtndmkfmpdnoliaaIMaps
import Derived.Test.YtndmkfmpdnoliaaIRightR
import Derived.Test.YtndmkfmpdnoliaaIDeed2
import Derived.Test.YtndmkfmpdnoliaaIDeed3
import Derived.Test.YtndmkfmpdnoliaaIDeedB
namespace Go.Proofs.Ytndmkfmpdnoliaa
open Go.ChangeShapes Go.WideShapes Go.ChangeAt Go.RowKit Go.Maps

/-- The entries of a map of functions. -/
structure Kn (w : World) (R : Nat) (es : Array MapEntry) (P : List Co) : Prop where
  len : es.toList.length = P.length
  at_ : ∀ (k : Nat) (c : Co), P[k]? = some c → ∃ pa pc la lc n, es.toList[k]? = some (MapEntry.mk (.string (bs c.name)) (coV c pa pc la lc) n) ∧ CoIn w (fun b => b < R) c pa pc la lc
/-- What lies below a run's block: the map of functions, the map of deeds. -/
structure Old (w : World) (R KM DM : Nat) (P : List Co) : Prop where
  km : KM < R
  dm : DM < R
  deeds : w.heap[DM]? = some (.map deedL.toArray 10)
  known : ∃ es clock, w.heap[KM]? = some (.map es clock) ∧ Kn w R es P
theorem Old.keep {w w' : World} {R KM DM : Nat} {P : List Co} (h : Old w R KM DM P) (hk : ∀ k, k < R → w'.heap[k]? = w.heap[k]?) : Old w' R KM DM P := by
  obtain ⟨es, clock, h1, h2, h3⟩ := h.known
  refine ⟨h.km, h.dm, (hk _ h.dm).trans h.deeds, es, clock, (hk _ h.km).trans h1, h2, fun k c hc => ?_⟩
  obtain ⟨pa, pc, la, lc, n, e1, e2⟩ := h3 k c hc
  exact ⟨pa, pc, la, lc, n, e1, e2.mono fun b hb _ => ⟨hb, hk b hb⟩⟩
/-- Which lists may be run. -/
structure Good (P : List Co) : Prop where
  right : ∀ c ∈ P, (rightR c).1 = 0
  ok : ∀ c ∈ P, CoOk c
  once : (P.map Co.name).Nodup
/-- The zero function. -/
abbrev zeroV : Value := .agg #[.string ⟨#[]⟩, .slice none 0 0, .int .i64 0, .int .i64 0, .slice none 0 0]
theorem zero_co (w : World) : (zeroValue 39).run Try.prog w = .ok zeroV w := by kernel_rfl
theorem look_of {P : List Co} (h : (P.map Co.name).Nodup) {k : Nat} {c : Co} (hk : P[k]? = some c) : look P c.name = some c := by
  induction P generalizing k with
  | nil => simp at hk
  | cons a l ih =>
    rw [List.map_cons, List.nodup_cons] at h
    cases k with
    | zero =>
      have : a = c := by simpa using hk
      subst this
      simp [look]
    | succ k =>
      have hk' : l[k]? = some c := by simpa using hk
      have hne : (a.name == c.name) = false := by
        rw [beq_eq_false_iff_ne]
        intro e
        exact h.1 (by rw [e]; exact List.mem_map_of_mem (List.mem_of_getElem? hk'))
      have := ih h.2 hk'
      unfold look at this ⊢
      rw [List.find?_cons, hne]; exact this
theorem look_nil {P : List Co} {nm : List UInt8} (h : ∀ c ∈ P, c.name ≠ nm) : look P nm = none := by
  unfold look
  rw [List.find?_eq_none]
  intro c hc
  simpa using h c hc
/-- What a name finds. -/
theorem known_look {w : World} {R KM DM : Nat} {P : List Co} (h : Old w R KM DM P) (hg : Good P) (nm : List UInt8) (hn : nm.length ≤ 1000000000) :
    (look P nm = none ∧ ∀ W : World, W.heap[KM]? = w.heap[KM]? → (Instr.lookup 52 (.map (some KM)) (.string (bs nm)) true).run Try.prog W = .ok (.tuple #[zeroV, .bool false]) W) ∨
    ∃ c pa pc la lc, look P nm = some c ∧ c ∈ P ∧ CoIn w (fun b => b < R) c pa pc la lc ∧ ∀ W : World, W.heap[KM]? = w.heap[KM]? → (Instr.lookup 52 (.map (some KM)) (.string (bs nm)) true).run Try.prog W = .ok (.tuple #[coV c pa pc la lc, .bool true]) W := by
  obtain ⟨es, clock, hb, hl, hat⟩ := h.known
  obtain ⟨kl, hkl⟩ := key_bs nm hn
  have hent : ∀ x ∈ es.toList, ∃ k c pa pc la lc n, P[k]? = some c ∧ x = MapEntry.mk (.string (bs c.name)) (coV c pa pc la lc) n ∧ CoIn w (fun b => b < R) c pa pc la lc := fun x hx => by
    obtain ⟨k, hk, rfl⟩ := List.getElem_of_mem hx
    obtain ⟨pa, pc, la, lc, n, e1, e2⟩ := hat k (P[k]'(by omega)) (List.getElem?_eq_getElem (by omega))
    rw [List.getElem?_eq_getElem hk] at e1
    exact ⟨k, P[k]'(by omega), pa, pc, la, lc, n, List.getElem?_eq_getElem (by omega), Option.some.inj e1, e2⟩
  have hks : ∀ x ∈ es.toList, ∃ l, keyOf Try.prog 9 x.key = some l := fun x hx => by
    obtain ⟨k, c, pa, pc, la, lc, n, h1, rfl, _⟩ := hent x hx
    exact key_bs c.name (hg.ok c (List.mem_of_getElem? h1)).name
  by_cases hex : ∃ c ∈ P, c.name = nm
  · right
    obtain ⟨c, hc, rfl⟩ := hex
    obtain ⟨k, hk, hkc⟩ := List.getElem_of_mem hc
    have hPk : P[k]? = some c := by rw [List.getElem?_eq_getElem hk, hkc]
    obtain ⟨pa, pc, la, lc, n, e1, e2⟩ := hat k c hPk
    refine ⟨c, pa, pc, la, lc, look_of hg.once hPk, hc, e2, fun W hW => ?_⟩
    refine look_some true kStr_law Try.underlying52 (hW.trans hb) hks hkl ⟨_, List.mem_of_getElem? e1, rfl⟩ fun x hx hxk => ?_
    obtain ⟨i, hi, rfl⟩ := List.getElem_of_mem hx
    have hiP : i < P.length := by omega
    obtain ⟨pa', pc', la', lc', n', f1, _⟩ := hat i P[i] (List.getElem?_eq_getElem hiP)
    rw [List.getElem?_eq_getElem hi] at f1
    have f1 := Option.some.inj f1
    rw [f1] at hxk
    have hnm : P[i].name = c.name := bs_inj (by injection hxk)
    have hik : i = k := by
      have hnd := hg.once
      rw [List.Nodup, List.pairwise_iff_getElem] at hnd
      rcases Nat.lt_trichotomy i k with h1 | h1 | h1
      · exact absurd (show (P.map Co.name)[i]'(by simpa using hiP) = (P.map Co.name)[k]'(by simpa using hk) by rw [List.getElem_map, List.getElem_map, hnm, hkc]) (hnd i k (by simpa using hiP) (by simpa using hk) h1)
      · exact h1
      · exact absurd (show (P.map Co.name)[k]'(by simpa using hk) = (P.map Co.name)[i]'(by simpa using hiP) by rw [List.getElem_map, List.getElem_map, hnm, hkc]) (hnd k i (by simpa using hk) (by simpa using hiP) h1)
    subst hik
    rw [List.getElem?_eq_getElem hi] at e1
    rw [Option.some.inj e1]
  · left
    have hno : ∀ c ∈ P, c.name ≠ nm := fun c hc e => hex ⟨c, hc, e⟩
    refine ⟨look_nil hno, fun W hW => ?_⟩
    refine look_none true kStr_law Try.underlying52 (zero_co W) (hW.trans hb) hks hkl fun x hx e => ?_
    obtain ⟨k, c, pa, pc, la, lc, n, h1, rfl, _⟩ := hent x hx
    exact hno c (List.mem_of_getElem? h1) (bs_inj (by injection e))

theorem Old.did {w w' : World} {R KM DM F G C deep : Nat} {P : List Co} {v v' : Value} {fr : Fr} {st : St} (h : Old w R KM DM P) (hr : R < w.heap.size) (hd : Did w w' R KM DM F G C deep v v' fr st) (ho : ∀ g, v.ownBlock = some g → R < g) : Old w' R KM DM P :=
  h.keep fun k hk => hd.kept.block k (by omega) (by
    have a1 := hd.fr.rf
    have a2 := hd.fr.rg
    have a3 := hd.fr.rc
    rintro (e | e | e | e | e)
    · omega
    · omega
    · omega
    · omega
    · have := ho k e; omega)
theorem RnM.above {w : World} {R KM DM deep : Nat} {st : St} {v : Value} (h : RnM w R KM DM deep st v) : ∀ g, v.ownBlock = some g → R < g := fun g e => (World.ownsRow.lt h.own g e).1
/-- Registers that have become others. -/
theorem Did.regs {w w' : World} {R KM DM F G C deep : Nat} {v : Value} {fr : Fr} {st : St} {l : List Nat} (h : FrM w R F G C fr) (hr : RnM w R KM DM deep st v) (ha : Apart F G C v) (hs : SetR w w' G l) (hl : l.length = fr.regs.length) (hb : ∀ n ∈ l, n < 4294967296) : Did w w' R KM DM F G C deep v v { fr with regs := l } st := by
  have hsz := hs.kept.size
  have b : ∀ k, k < w.heap.size → k ≠ G → w'.heap[k]? = w.heap[k]? := fun k hk hn => hs.kept.block k hk hn
  refine ⟨⟨(b R (lt_of_some hr.r) (by have := h.rg; omega)).trans hr.r, own_kept hr.own hs.kept (fun g hg e => (ha g hg).2.1 e), hr.left, hr.br⟩, ⟨?_, hs.row, (b C (lt_of_some h.c) (Ne.symm h.gc)).trans h.c, h.fg, h.fc, h.gc, h.rf, h.rg, h.rc, hb, h.cells, h.res⟩, hs.kept.mono fun k _ e => .inr (.inr (.inl e)), fun g hg => .inl hg, ha⟩
  simp only [hl]
  exact (b F (lt_of_some h.f) h.fg).trans h.f
/-- Cells that have become others. -/
theorem Did.cells {w w' : World} {R KM DM F G C deep : Nat} {v : Value} {fr : Fr} {st : St} {l : List Nat} (h : FrM w R F G C fr) (hr : RnM w R KM DM deep st v) (ha : Apart F G C v) (hs : SetR w w' C l) (hl : l.length = fr.cells.length) (hb : ∀ n ∈ l, n < 4294967296) : Did w w' R KM DM F G C deep v v { fr with cells := l } st := by
  have b : ∀ k, k < w.heap.size → k ≠ C → w'.heap[k]? = w.heap[k]? := fun k hk hn => hs.kept.block k hk hn
  refine ⟨⟨(b R (lt_of_some hr.r) (by have := h.rc; omega)).trans hr.r, own_kept hr.own hs.kept (fun g hg e => (ha g hg).2.2 e), hr.left, hr.br⟩, ⟨?_, (b G (lt_of_some h.g) h.gc).trans h.g, hs.row, h.fg, h.fc, h.gc, h.rf, h.rg, h.rc, h.regs, hb, h.res⟩, hs.kept.mono fun k _ e => .inr (.inr (.inr (.inl e))), fun g hg => .inl hg, ha⟩
  simp only [hl]
  exact (b F (lt_of_some h.f) h.fc).trans h.f
/-- A frame's block that has become another one. -/
theorem Did.frame {w w' : World} {R KM DM F G C deep : Nat} {v : Value} {fr fr' : Fr} {st : St} (h : FrM w R F G C fr) (hr : RnM w R KM DM deep st v) (ha : Apart F G C v) (hs : SetF w w' R F G C fr') (e1 : fr'.regs = fr.regs) (e2 : fr'.cells = fr.cells) (hres : fr'.result < 4294967296) : Did w w' R KM DM F G C deep v v fr' st := by
  have b : ∀ k, k < w.heap.size → k ≠ F → w'.heap[k]? = w.heap[k]? := fun k hk hn => hs.kept.block k hk hn
  refine ⟨⟨(b R (lt_of_some hr.r) (by have := h.rf; omega)).trans hr.r, own_kept hr.own hs.kept (fun g hg e => (ha g hg).1 e), hr.left, hr.br⟩, ⟨hs.f, ?_, ?_, h.fg, h.fc, h.gc, h.rf, h.rg, h.rc, by rw [e1]; exact h.regs, by rw [e2]; exact h.cells, hres⟩, hs.kept.mono fun k _ e => .inr (.inl e), fun g hg => .inl hg, ha⟩
  · rw [e1]; exact (b G (lt_of_some h.g) (Ne.symm h.fg)).trans h.g
  · rw [e2]; exact (b C (lt_of_some h.c) (Ne.symm h.fc)).trans h.c

/-- A run's number that has become another one, and a frame's next place. -/
theorem Did.count {w w1 : World} {R KM DM F G C deep lf nx : Nat} {v : Value} {fr : Fr} {st : St} (hb : Below w.heap.size w w1) (h : FrM w1 R F G C fr) (hr : RnM w1 R KM DM deep st v) (ha : Apart F G C v) (hlf : lf ≤ st.left) :
    Did w ((w1.setCell ⟨R, 2, none⟩ (.int .i64 (60000 - (lf : Int)))).setCell ⟨F, 3, none⟩ (.int .i64 (nx : Int))) R KM DM F G C deep v v { fr with next := nx } { st with left := lf } := by
  have nrf := h.rf
  have hR : (w1.setCell ⟨R, 2, none⟩ (.int .i64 (60000 - (lf : Int)))).heap[R]? = _ := setCell_at hr.r
  have hF : (w1.setCell ⟨R, 2, none⟩ (.int .i64 (60000 - (lf : Int)))).heap[F]? = _ := (setCell_other (by omega)).trans h.f
  have hbr := hr.br
  have hle := hr.left
  refine ⟨⟨by rw [setCell_other (by omega)]; exact hR, own_kept (own_kept hr.own (Kept.set w1 R 2 _) (fun g hg e => by have := hr.above g hg; omega)) (Kept.set _ F 3 _) (fun g hg e => (ha g hg).1 e), by show lf ≤ 60000; omega, by show st.br.length + lf ≤ 60000; omega⟩,
    ⟨setCell_at hF, ?_, ?_, h.fg, h.fc, h.gc, h.rf, h.rg, h.rc, h.regs, h.cells, h.res⟩, ?_, fun g hg => .inl hg, ha⟩
  · rw [setCell_other (Ne.symm h.fg), setCell_other (by have := h.rg; omega)]; exact h.g
  · rw [setCell_other (Ne.symm h.fc), setCell_other (by have := h.rc; omega)]; exact h.c
  · exact ((Below.kept hb _).set_in R 2 _ (.inl rfl)).set_in F 3 _ (.inr (.inl rfl))
/-- What is wrong. -/
theorem Did.wrong {w w1 : World} {R KM DM F G C deep : Nat} {v : Value} {fr : Fr} {st : St} {e : Int} (hb : Below w.heap.size w w1) (h : FrM w1 R F G C fr) (hr : RnM w1 R KM DM deep st v) (ha : Apart F G C v) :
    Did w (w1.setCell ⟨R, 5, none⟩ (.int .i64 e)) R KM DM F G C deep v v fr { st with wrong := e } := by
  have nrf := h.rf
  refine ⟨⟨setCell_at hr.r, own_kept hr.own (Kept.set w1 R 5 _) (fun g hg e => by have := hr.above g hg; omega), hr.left, hr.br⟩, ⟨by rw [setCell_other (by omega)]; exact h.f, by rw [setCell_other (by have := h.rg; omega)]; exact h.g, by rw [setCell_other (by have := h.rc; omega)]; exact h.c, h.fg, h.fc, h.gc, h.rf, h.rg, h.rc, h.regs, h.cells, h.res⟩, (Below.kept hb _).set_in R 5 _ (.inl rfl), fun g hg => .inl hg, ha⟩

theorem enter_of {f : FuncId} {fn : Func} (hf : Try.prog.funcs[f]? = some fn) (hn : (fn.name == "runtime.NumGoroutine") = false) (hb : fn.body.isNone = false) (args : Array Value) (w : World) : (callFunc f args).run Try.prog w = .ok (.enter f args) w := by
  have hn' : ¬ fn.name = "runtime.NumGoroutine" := by simpa using hn
  have hb' : ¬ fn.body = none := fun e => by rw [e] at hb; cases hb
  simp [callFunc, program, Sem.run, hf, hn', hb']
/-- A deed is a function with a body. -/
theorem deed_enter (n : Nat) (h1 : 1 ≤ n) (h10 : n ≤ 10) (args : Array Value) (w : World) : (callFunc (deedF n) args).run Try.prog w = .ok (.enter (deedF n) args) w := by
  have : n = 1 ∨ n = 2 ∨ n = 3 ∨ n = 4 ∨ n = 5 ∨ n = 6 ∨ n = 7 ∨ n = 8 ∨ n = 9 ∨ n = 10 := by omega
  rcases this with rfl | rfl | rfl | rfl | rfl | rfl | rfl | rfl | rfl | rfl
  · exact enter_of Try.func42 (by kernel_rfl) (by kernel_rfl) args w
  · exact enter_of Try.func43 (by kernel_rfl) (by kernel_rfl) args w
  · exact enter_of Try.func44 (by kernel_rfl) (by kernel_rfl) args w
  · exact enter_of Try.func45 (by kernel_rfl) (by kernel_rfl) args w
  · exact enter_of Try.func46 (by kernel_rfl) (by kernel_rfl) args w
  · exact enter_of Try.func47 (by kernel_rfl) (by kernel_rfl) args w
  · exact enter_of Try.func48 (by kernel_rfl) (by kernel_rfl) args w
  · exact enter_of Try.func49 (by kernel_rfl) (by kernel_rfl) args w
  · exact enter_of Try.func50 (by kernel_rfl) (by kernel_rfl) args w
  · exact enter_of Try.func51 (by kernel_rfl) (by kernel_rfl) args w
set_option maxRecDepth 100000 in
set_option maxHeartbeats 4000000 in
theorem step_zero {R KM DM F G C deep : Nat} {fr : Fr} {st : St} {v : Value} (x : Ir) (ga : Option Addr) (gc : Nat) (w : World) (h : FrM w R F G C fr) (hr : RnM w R KM DM deep st v) (ha : Apart F G C v) (hz : st.left = 0) :
    Calls Try.prog 52 #[.pointer (some ⟨F, 0, none⟩), irV x ga gc] w fun e w' => e = .returned (.tuple #[]) ∧ ∃ v', Did w w' R KM DM F G C deep v v' fr { st with wrong := 19 } := by
  have h1 := h.box (irO x ga gc)
  have hr1 := hr.box (irO x ga gc)
  have hb1 := bl_alloc (Below.refl w.heap.size w) (irO x ga gc)
  obtain ⟨f0, f1, f2, f3, f4, f5⟩ := h1.cells6
  obtain ⟨r0, r1, r2, r3, r4, r5⟩ := hr1.cells6
  have fz := row_free hr1.r 5
  rw [hz] at r2
  simp only [Int.natCast_zero, Int.sub_zero] at r2
  have HD : Hid _ := Did.wrong (e := 19) hb1 h1 hr1 ha
  clear f1 f2 f3 f4 f5 r0 r1 r3 r4 h1 hr1 hb1
  unfold irV
  go_enter Try.func52, Try.ntmps52
  go_wp2_with fail
  refine bodyPost_ret (results_none rfl _ _ _) rfl ?_
  exact ⟨rfl, v, HD.out⟩
set_option maxRecDepth 100000 in
set_option maxHeartbeats 4000000 in
theorem step_more {R KM DM F G C deep : Nat} {P : List Co} {fr fr' : Fr} {st st' : St} {v : Value} (x : Ir) (ga : Option Addr) (gc : Nat) (w : World) (hold : Old w R KM DM P) (h : FrM w R F G C fr) (hr : RnM w R KM DM deep st v) (ha : Apart F G C v) (hz : st.left ≠ 0) (n : Nat) (hn : x.kind = n) (h1n : 1 ≤ n) (hn10 : n ≤ 10) (hnx : fr.next ≤ 1000000)
    (hdeed : ∀ w5, Old w5 R KM DM P → FrM w5 R F G C { fr with next := fr.next + 1 } → RnM w5 R KM DM deep { st with left := st.left - 1 } v → w.heap.size ≤ w5.heap.size → (∀ k, k < w.heap.size → k ≠ R → k ≠ F → w5.heap[k]? = w.heap[k]?) → Calls Try.prog (deedF n) #[.pointer (some ⟨F, 0, none⟩), irV x ga gc] w5 fun e w' => e = .returned (.tuple #[]) ∧ ∃ v', Did w5 w' R KM DM F G C deep v v' fr' st') :
    Calls Try.prog 52 #[.pointer (some ⟨F, 0, none⟩), irV x ga gc] w fun e w' => e = .returned (.tuple #[]) ∧ ∃ v', Did w w' R KM DM F G C deep v v' fr' st' := by
  obtain ⟨kd, op, xd, xa, xb, xc, nn, nm, ag⟩ := x
  simp only at hn
  subst hn
  have h1 := h.box (irO ⟨n, op, xd, xa, xb, xc, nn, nm, ag⟩ ga gc)
  have hr1 := hr.box (irO ⟨n, op, xd, xa, xb, xc, nn, nm, ag⟩ ga gc)
  have hb1 := bl_alloc (Below.refl w.heap.size w) (irO ⟨n, op, xd, xa, xb, xc, nn, nm, ag⟩ ga gc)
  have hx1 := heap_alloc_new w (irO ⟨n, op, xd, xa, xb, xc, nn, nm, ag⟩ ga gc)
  have hRw := lt_of_some hr.r
  have hFw := lt_of_some h.f
  have nrf := h.rf
  have nf1 : ¬ F = R := by omega
  have nf2 : ¬ R = F := by omega
  have hle := hr.left
  obtain ⟨f0, f1, f2, f3, f4, f5⟩ := h1.cells6
  obtain ⟨r0, r1, r2, r3, r4, r5⟩ := hr1.cells6
  have fz := row_free hr1.r 2
  have hg0 : ((60000 - (st.left : Int)) == 60000) = false := by rw [beq_eq_false_iff_ne]; omega
  have hw1 : IntKind.i64.wrap (60000 - (st.left : Int) + 1) = 60000 - ((st.left - 1 : Nat) : Int) := by rw [Go.IntWalk.i64_in _ (by omega)]; omega
  have HD := Did.count (lf := st.left - 1) (nx := fr.next + 1) hb1 h1 hr1 ha (by omega)
  have hFs : ((w.alloc (irO ⟨n, op, xd, xa, xb, xc, nn, nm, ag⟩ ga gc)).setCell ⟨R, 2, none⟩ (.int .i64 (60000 - ((st.left - 1 : Nat) : Int)))).heap[F]? = _ := (setCell_other (by omega)).trans h1.f
  obtain ⟨s0, s3, sz⟩ : (((w.alloc (irO ⟨n, op, xd, xa, xb, xc, nn, nm, ag⟩ ga gc)).setCell ⟨R, 2, none⟩ (.int .i64 (60000 - ((st.left - 1 : Nat) : Int)))).cell? ⟨F, 0, none⟩ = some (.pointer (some ⟨R, 0, none⟩))) ∧ (((w.alloc (irO ⟨n, op, xd, xa, xb, xc, nn, nm, ag⟩ ga gc)).setCell ⟨R, 2, none⟩ (.int .i64 (60000 - ((st.left - 1 : Nat) : Int)))).cell? ⟨F, 3, none⟩ = some (.int .i64 (fr.next : Int))) ∧ (((w.alloc (irO ⟨n, op, xd, xa, xb, xc, nn, nm, ag⟩ ga gc)).setCell ⟨R, 2, none⟩ (.int .i64 (60000 - ((st.left - 1 : Nat) : Int)))).frozen? ⟨F, 3, none⟩ = false) := by
    refine ⟨?_, ?_, row_free hFs 3⟩ <;> simp [World.cell?, hFs]
  have hX4 : (((w.alloc (irO ⟨n, op, xd, xa, xb, xc, nn, nm, ag⟩ ga gc)).setCell ⟨R, 2, none⟩ (.int .i64 (60000 - ((st.left - 1 : Nat) : Int)))).setCell ⟨F, 3, none⟩ (.int .i64 ((fr.next + 1 : Nat) : Int))).heap[w.heap.size]? = some (irO ⟨n, op, xd, xa, xb, xc, nn, nm, ag⟩ ga gc) := by rw [setCell_other (by omega), setCell_other (by omega)]; exact hx1
  have hk4 : ∀ k, k < w.heap.size → k ≠ R → k ≠ F → (((w.alloc (irO ⟨n, op, xd, xa, xb, xc, nn, nm, ag⟩ ga gc)).setCell ⟨R, 2, none⟩ (.int .i64 (60000 - ((st.left - 1 : Nat) : Int)))).setCell ⟨F, 3, none⟩ (.int .i64 ((fr.next + 1 : Nat) : Int))).heap[k]? = w.heap[k]? := fun k hk n1 n2 => by rw [setCell_other n2, setCell_other n1]; exact heap_alloc_old w _ hk
  have hsz4 : w.heap.size < (((w.alloc (irO ⟨n, op, xd, xa, xb, xc, nn, nm, ag⟩ ga gc)).setCell ⟨R, 2, none⟩ (.int .i64 (60000 - ((st.left - 1 : Nat) : Int)))).setCell ⟨F, 3, none⟩ (.int .i64 ((fr.next + 1 : Nat) : Int))).heap.size := lt_of_some hX4
  have ecast : ((fr.next + 1 : Nat) : Int) = (fr.next : Int) + 1 := by omega
  rw [ecast] at HD hX4 hk4 hsz4
  unfold irV at *
  have HRw : Hid _ := hRw
  clear f1 f2 f4 f5 r0 r1 r3 r4 r5 h1 hr1 hb1 hx1 hFs hRw hFw
  go_enter Try.func52, Try.ntmps52
  go_wp2_with fail
  generalize ((w.alloc (irO ⟨n, op, xd, xa, xb, xc, nn, nm, ag⟩ ga gc)).setCell ⟨R, 2, none⟩ (.int .i64 (60000 - ((st.left - 1 : Nat) : Int)))).setCell ⟨F, 3, none⟩ (.int .i64 ((fr.next : Int) + 1)) = w4 at HD hX4 hk4 hsz4 ⊢
  have hold4 := hold.did HRw.out HD hr.above
  have hX4' : w4.drew.heap[w.heap.size]? = some (irO ⟨n, op, xd, xa, xb, xc, nn, nm, ag⟩ ga gc) := hX4
  have hNX : ¬ Touch R F G C v w.heap.size := by
    have a1 := lt_of_some h.f
    have a2 := lt_of_some h.g
    have a3 := lt_of_some h.c
    have a4 := HRw.out
    rintro (e | e | e | e | e)
    · omega
    · omega
    · omega
    · omega
    · have := (World.ownsRow.lt hr.own _ e).2; omega
  have HD4 : Hid _ := HD
  obtain ⟨f0, f1, f2, f3, f4, f5⟩ := HD.fr.cells6
  obtain ⟨r0, r1, r2, r3, r4, r5⟩ := HD.rn.cells6
  obtain ⟨x0, x1, x2, x3, x4, x5, x6, x7, x8⟩ := ir_block hX4
  have hlk := deed_look (w := w4.drew) hold4.deeds n h1n hn10
  have hcall := hdeed w4.drew (hold4.keep fun _ _ => rfl) ⟨HD.fr.f, HD.fr.g, HD.fr.c, HD.fr.fg, HD.fr.fc, HD.fr.gc, HD.fr.rf, HD.fr.rg, HD.fr.rc, HD.fr.regs, HD.fr.cells, HD.fr.res⟩ ⟨HD.rn.r, own_kept HD.rn.own (Below.kept (drew_bl w4) (fun _ => False)) (fun _ _ e => e), HD.rn.left, HD.rn.br⟩ (Nat.le_of_lt hsz4) hk4
  simp only at x0 x1 x2 x3 x4 x5 x6 x7 x8
  clear hdeed HD hold hold4 f1 f2 f3 f4 f5 r0 r2 r3 r4 r5 s0 s3 sz hX4 hk4 hw1 hg0 fz ecast
  have fin : ∀ w6 v', Did w4.drew w6 R KM DM F G C deep v v' fr' st' → Did w w6 R KM DM F G C deep v v' fr' st' := fun w6 v' hd => by
    have hd4 : Did w w4.drew R KM DM F G C deep v v { fr with next := fr.next + 1 } { st with left := st.left - 1 } := ⟨⟨HD4.out.rn.r, own_kept HD4.out.rn.own (Below.kept (drew_bl w4) (fun _ => False)) (fun _ _ e => e), HD4.out.rn.left, HD4.out.rn.br⟩, ⟨HD4.out.fr.f, HD4.out.fr.g, HD4.out.fr.c, HD4.out.fr.fg, HD4.out.fr.fc, HD4.out.fr.gc, HD4.out.fr.rf, HD4.out.fr.rg, HD4.out.fr.rc, HD4.out.fr.regs, HD4.out.fr.cells, HD4.out.fr.res⟩, HD4.out.kept.drew, HD4.out.fresh, HD4.out.apart⟩
    exact hd4.trans hd
  have FIN : Hid _ := fin
  have HX4 : Hid _ := hX4'
  have HNX : Hid (¬ Touch R F G C v w.heap.size) := hNX
  clear fin HD4 hX4' hNX
  have hcf := deed_enter n h1n hn10
  have hS : w4.cell? ⟨F, 0, none⟩ = some (.pointer (some ⟨R, 0, none⟩)) ∧ w4.cell? ⟨R, 1, none⟩ = some (.map (some DM)) ∧ w4.cell? ⟨w.heap.size, 0, none⟩ = some (.int .i64 (n : Int)) ∧ w4.cell? ⟨w.heap.size, 1, none⟩ = some (.int .i64 op) ∧ w4.cell? ⟨w.heap.size, 2, none⟩ = some (.int .i64 xd) ∧ w4.cell? ⟨w.heap.size, 3, none⟩ = some (.int .i64 xa) ∧ w4.cell? ⟨w.heap.size, 4, none⟩ = some (.int .i64 xb) ∧ w4.cell? ⟨w.heap.size, 5, none⟩ = some (.int .i64 xc) ∧ w4.cell? ⟨w.heap.size, 6, none⟩ = some (.int .u32 (nn : Int)) ∧ w4.cell? ⟨w.heap.size, 7, none⟩ = some (.string (bs nm)) ∧ w4.cell? ⟨w.heap.size, 8, none⟩ = some (.slice ga ag.length gc) := ⟨f0, r1, x0, x1, x2, x3, x4, x5, x6, x7, x8⟩
  have hX6 : ∀ w6 v', Did w4.drew w6 R KM DM F G C deep v v' fr' st' → w6.cell? ⟨F, 0, none⟩ = some (.pointer (some ⟨R, 0, none⟩)) ∧ w6.cell? ⟨R, 1, none⟩ = some (.map (some DM)) ∧ w6.cell? ⟨w.heap.size, 0, none⟩ = some (.int .i64 (n : Int)) ∧ w6.cell? ⟨w.heap.size, 1, none⟩ = some (.int .i64 op) ∧ w6.cell? ⟨w.heap.size, 2, none⟩ = some (.int .i64 xd) ∧ w6.cell? ⟨w.heap.size, 3, none⟩ = some (.int .i64 xa) ∧ w6.cell? ⟨w.heap.size, 4, none⟩ = some (.int .i64 xb) ∧ w6.cell? ⟨w.heap.size, 5, none⟩ = some (.int .i64 xc) ∧ w6.cell? ⟨w.heap.size, 6, none⟩ = some (.int .u32 (nn : Int)) ∧ w6.cell? ⟨w.heap.size, 7, none⟩ = some (.string (bs nm)) ∧ w6.cell? ⟨w.heap.size, 8, none⟩ = some (.slice ga ag.length gc) := fun w6 v' hd => by
    obtain ⟨a0, a1, a2, a3, a4, a5⟩ := hd.fr.cells6
    obtain ⟨b0, b1, b2, b3, b4, b5⟩ := hd.rn.cells6
    obtain ⟨y0, y1, y2, y3, y4, y5, y6, y7, y8⟩ := ir_block (x := ⟨n, op, xd, xa, xb, xc, nn, nm, ag⟩) ((hd.kept.block w.heap.size hsz4 HNX.out).trans HX4.out)
    exact ⟨a0, b1, y0, y1, y2, y3, y4, y5, y6, y7, y8⟩
  have HX6 : Hid _ := hX6
  clear hX6 f0 r1 x0 x1 x2 x3 x4 x5 x6 x7 x8
  refine wp_region_held_drew (S := (fun w' => w'.cell? ⟨F, 0, none⟩ = some (.pointer (some ⟨R, 0, none⟩)) ∧ w'.cell? ⟨R, 1, none⟩ = some (.map (some DM)) ∧ w'.cell? ⟨w.heap.size, 0, none⟩ = some (.int .i64 (n : Int)) ∧ w'.cell? ⟨w.heap.size, 1, none⟩ = some (.int .i64 op) ∧ w'.cell? ⟨w.heap.size, 2, none⟩ = some (.int .i64 xd) ∧ w'.cell? ⟨w.heap.size, 3, none⟩ = some (.int .i64 xa) ∧ w'.cell? ⟨w.heap.size, 4, none⟩ = some (.int .i64 xb) ∧ w'.cell? ⟨w.heap.size, 5, none⟩ = some (.int .i64 xc) ∧ w'.cell? ⟨w.heap.size, 6, none⟩ = some (.int .u32 (nn : Int)) ∧ w'.cell? ⟨w.heap.size, 7, none⟩ = some (.string (bs nm)) ∧ w'.cell? ⟨w.heap.size, 8, none⟩ = some (.slice ga ag.length gc))) (by kernel_rfl) hS (fun hHeld => ?_)
  refine wpAnyH_take (i := 0) (v := ?_) rfl (by kernel_rfl) (by kernel_rfl) (by kernel_rfl) (fun _ _ _ h => h) (Or.inl ⟨by rfl, by intro w hSw; (try dsimp only at hSw); go_simp; all_goals with_reducible rfl⟩) hHeld ?_
  try simp only [Act.put]
  refine wpAnyH_take (i := 1) (v := ?_) rfl (by kernel_rfl) (by kernel_rfl) (by kernel_rfl) (fun _ _ _ h => h) (Or.inl ⟨by rfl, by intro w hSw; (try dsimp only at hSw); go_simp; all_goals with_reducible rfl⟩) hHeld ?_
  try simp only [Act.put]
  refine wpAnyH_take (i := 2) (v := ?_) rfl (by kernel_rfl) (by kernel_rfl) (by kernel_rfl) (fun _ _ _ h => h) (Or.inl ⟨by rfl, by intro w hSw; (try dsimp only at hSw); go_simp; all_goals with_reducible rfl⟩) hHeld ?_
  try simp only [Act.put]
  refine wpAnyH_take (i := 3) (v := ?_) rfl (by kernel_rfl) (by kernel_rfl) (by kernel_rfl) (fun _ _ _ h => h) (Or.inl ⟨by rfl, by intro w hSw; (try dsimp only at hSw); go_simp; all_goals with_reducible rfl⟩) hHeld ?_
  try simp only [Act.put]
  refine wpAnyH_take (i := 4) (v := ?_) rfl (by kernel_rfl) (by kernel_rfl) (by kernel_rfl) (fun _ _ _ h => h) (Or.inl ⟨by rfl, by intro w hSw; (try dsimp only at hSw); go_simp; all_goals with_reducible rfl⟩) hHeld ?_
  try simp only [Act.put]
  refine wpAnyH_take (i := 5) (v := ?_) rfl (by kernel_rfl) (by kernel_rfl) (by kernel_rfl) (fun _ _ _ h => h) (Or.inl ⟨by rfl, by intro w hSw; (try dsimp only at hSw); go_simp; all_goals with_reducible rfl⟩) hHeld ?_
  try simp only [Act.put]
  refine wpAnyH_take (i := 6) (v := ?_) rfl (by kernel_rfl) (by kernel_rfl) (by kernel_rfl) (fun _ _ _ h => h) (Or.inl ⟨by rfl, by intro w hSw; (try dsimp only at hSw); go_simp; all_goals with_reducible rfl⟩) hHeld ?_
  try simp only [Act.put]
  refine wpAnyH_take (i := 7) (v := ?_) rfl (by kernel_rfl) (by kernel_rfl) (by kernel_rfl) (fun _ _ _ h => h) (Or.inl ⟨by rfl, by intro w hSw; (try dsimp only at hSw); go_simp; all_goals with_reducible rfl⟩) hHeld ?_
  try simp only [Act.put]
  refine wpAnyH_take (i := 8) (v := ?_) rfl (by kernel_rfl) (by kernel_rfl) (by kernel_rfl) (fun _ _ _ h => h) (Or.inl ⟨by rfl, by intro w hSw; (try dsimp only at hSw); go_simp; all_goals with_reducible rfl⟩) hHeld ?_
  try simp only [Act.put]
  refine wpAnyH_take (i := 10) (v := ?_) rfl (by kernel_rfl) (by kernel_rfl) (by kernel_rfl) (fun _ _ _ h => h) (Or.inl ⟨by rfl, by intro w hSw; (try dsimp only at hSw); go_simp; all_goals with_reducible rfl⟩) hHeld ?_
  try simp only [Act.put]
  refine wpAnyH_take (i := 11) (v := ?_) rfl (by kernel_rfl) (by kernel_rfl) (by kernel_rfl) (fun _ _ _ h => h) (Or.inl ⟨by rfl, by intro w hSw; (try dsimp only at hSw); go_simp; all_goals with_reducible rfl⟩) hHeld ?_
  try simp only [Act.put]
  refine wpAnyH_ready (rs := [9]) (by kernel_rfl) (by simp) ?_
  refine AllReadyH.cons rfl (fun K hK => ?_) (AllReadyH.nil)
  go_simp
  refine hK.out _ _ hHeld (fun hHeld => ?_)
  clear hK K
  try simp only [Act.put]
  refine wpAnyH_ready (rs := [12]) (by kernel_rfl) (by simp) ?_
  refine AllReadyH.cons rfl (fun K hK => ?_) (AllReadyH.nil)
  go_simp
  refine hcall.mono ?_
  rintro e w6 ⟨rfl, v', hd⟩
  refine hK.out _ _ (HX6.out _ _ hd) (fun hHeld => ?_)
  clear hK K
  try simp only [Act.put]
  refine wpAnyH_done (by kernel_rfl) ?_ _
  have HDD : Hid _ := FIN.out _ _ hd
  clear hS HX6 hd hcall hlk FIN hHeld hcf
  go_wp2_with fail
  go_end0
  exact ⟨rfl, v', HDD.out⟩
end Go.Proofs.Ytndmkfmpdnoliaa
