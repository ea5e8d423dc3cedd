/- WHAT IS APPENDED FROM A SLICE OR A STRING to a row that the call owns: a run's law; a law for the walk, in a plain region and in one that draws its order. -/
import Derived.Test.YtlagadofiahijaaDoorFSig
import Derived.Deep.AppendSrc
import Derived.OwnWalk
import Derived.RegionTactic
import Derived.ProofKit
import Derived.Lib.SliceRun
import Derived.Deep.RegionLaw
namespace Go.Proofs.YtlagadofiahijaaDoor
open Go.RowKit

theorem run_append_src {e t tx : TypeId} {size bytes : Nat} {z : Value} (hinfo : (Tryd.prog.info? e).map (fun i => (i.zero, i.size, i.bytes)) = some (some z, size, bytes)) (hzc : z.cells.size = size) (ht : Tryd.prog.underlying t = some (.slice e)) (hby : bytes ≤ 64) (w : World) (ty : TypeId) (base : Nat) (v : Value) (n : Nat) (xs : List Value) (hown : w.ownsRow base e size v n xs)
    (s : Value) (m : Nat) (news : List Value) (hsrc0 : Src Tryd.prog size tx s m news w) (hlen : n + m ≤ 1000000000) (hbase : base ≤ w.heap.size) :
    ∃ x c w', (Builtin.append_ #[t, tx] ty #[v, s]).run Tryd.prog w = .ok (.slice x (n + m) c) w' ∧ w'.ownsRow base e size (.slice x (n + m) c) (n + m) (xs ++ news) ∧ w.grownBy w' v.ownBlock ∧
      ((Value.slice x (n + m) c).ownBlock = v.ownBlock ∨ (Value.slice x (n + m) c).ownBlock = some w.heap.size) := by
  obtain ⟨i0, hi0, hz0, hz1, hz2⟩ := info_parts hinfo
  have hx1 : xs.length = n * size := hown.1
  have hbl : news.length = m * size := hsrc0.newsLen
  have hl : (xs ++ news).length = (n + m) * size := by rw [List.length_append, hx1, hbl, Nat.add_mul]
  have hsrc : Src Tryd.prog i0.size tx s m news w := by rw [hz1]; exact hsrc0
  have grown : ∀ (old : Nat), old < n + m → ∀ (row : Option Nat),
      (w.drew.alloc (.cells ((xs ++ news).toArray ++ Builtin.zeroCells z.cells (grownCap w (n + m) old e - (n + m))) e)).ownsRow base e size
        (.slice (some ⟨w.heap.size, 0, none⟩) (n + m) (grownCap w (n + m) old e)) (n + m) (xs ++ news) ∧
      w.grownBy (w.drew.alloc (.cells ((xs ++ news).toArray ++ Builtin.zeroCells z.cells (grownCap w (n + m) old e - (n + m))) e)) row := by
    intro old ho row
    have hge := grownCap_ge w (n + m) old e
    have hcm : grownCap w (n + m) old e ≤ maxLen := grownCap_le_maxLen w (n + m) old e (by unfold maxLen; omega)
    refine ⟨⟨hl, .inr ⟨w.heap.size, _, _, rfl, hbase, heap_alloc_new w.drew _, hge, hcm, ?_, ?_⟩⟩, ⟨rfl, rfl, rfl, by simp, fun k hk _ => heap_alloc_old w.drew _ hk⟩⟩
    · simp only [Array.size_append, List.size_toArray, size_zeroCells, hl, hzc]
      rw [← Nat.add_mul, Nat.add_sub_cancel' hge]
    · rw [Array.toList_append, ← hl]
      exact List.take_left
  have fits : ∀ old, old < n + m → old ≤ 1000000000 → Builtin.nextslicecap (n + m) old * i0.bytes ≤ 281474976710656 := by
    intro old ho hb
    rw [hz2]
    refine growslice_fits (by omega) ?_
    have := Nat.mul_le_mul_left (n + m) hby
    omega
  rcases hown.2 with ⟨rfl, rfl⟩ | ⟨g, cap, cur, rfl, hbg, hg, hnc, hcm, hcs, htake⟩
  · have hx : xs = [] := List.eq_nil_of_length_eq_zero (by simpa using hown.1)
    subst hx
    by_cases hm : m = 0
    · subst hm
      have hb : news = [] := List.eq_nil_of_length_eq_zero (by omega)
      subst hb
      refine ⟨none, 0, w, ?_, World.ownsRow_nil w base e size, ⟨rfl, rfl, rfl, Nat.le_refl _, fun _ _ _ => rfl⟩, Or.inl rfl⟩
      rcases hsrc.kind with ⟨e', hk⟩ | hk <;> simp [Builtin.append_, run_underlying ht, run_underlying hk, sizeOf, typeInfo, hi0, hsrc.len, hsrc.cells]
    · have hr := run_append_grow_src (P := Tryd.prog) w t tx ty e i0 _ ht hi0 hz0 none 0 0 [] (by exact run_firstCells_none w.drew i0.size 0 0 0) s m _ hsrc (by omega) (by omega) (by simpa using fits 0 (by omega) (by omega))
      have hgr := grown 0 (by omega) (Value.ownBlock (.slice none 0 0))
      simp only [Nat.zero_add, List.nil_append] at hgr hr ⊢
      exact ⟨_, _, _, hr, hgr.1, hgr.2, Or.inr rfl⟩
  · by_cases hroom : n + m ≤ cap
    · have hle : n * i0.size + news.length ≤ cur.size := by rw [hz1, hbl, hcs, ← Nat.add_mul]; exact Nat.mul_le_mul_right _ hroom
      have hst := run_storeCells_at Tryd.prog g (n * i0.size) e news 0 cur w hg (by omega) hsrc.one
      simp only [Nat.add_zero] at hst
      have hr : (Builtin.append_ #[t, tx] ty #[.slice (some ⟨g, 0, none⟩) n cap, s]).run Tryd.prog w = .ok (.slice (some ⟨g, 0, none⟩) (n + m) cap) (w.setRow g (cur.toList.take (n * i0.size) ++ news ++ cur.toList.drop (n * i0.size + news.length)).toArray) := by
        rcases hsrc.kind with ⟨e', hk⟩ | hk <;> simp [Builtin.append_, run_underlying ht, run_underlying hk, sizeOf, typeInfo, hi0, hsrc.len, hroom, hsrc.cells, Addr.add_lit, hst]
      refine ⟨_, _, _, hr, ⟨hl, .inr ⟨g, cap, _, rfl, hbg, setRow_heap w g cur _ e _ hg, hroom, hcm, ?_, ?_⟩⟩, ⟨rfl, rfl, rfl, by simp, fun k _ hk => setRow_other w g k _ (fun e => hk (by simp [Value.ownBlock, e]))⟩, Or.inl rfl⟩
      · simp only [List.size_toArray, List.length_append, List.length_take, List.length_drop, Array.length_toList]
        omega
      · rw [hz1, htake, ← hl]
        exact List.take_left
    · have holds : ∀ j u, xs[j]? = some u → w.drew.cell? ((⟨g, 0, none⟩ : Addr).add j) = some u := fun j u hj => by
        have := hown.cells (g := g) rfl j u hj
        simpa using this
      have hr := run_append_grow_src (P := Tryd.prog) w t tx ty e i0 _ ht hi0 hz0 (some ⟨g, 0, none⟩) n cap xs (by rw [hz1]; exact run_firstCells_some w.drew size n ⟨g, 0, none⟩ n cap xs hown.1 holds) s m _ hsrc (by omega) (by omega) (fits cap (by omega) (by omega))
      have hgr := grown cap (by omega) (Value.ownBlock (.slice (some ⟨g, 0, none⟩) n cap))
      exact ⟨_, _, _, hr, hgr.1, hgr.2, Or.inr rfl⟩

/-- At an operation of a plain region. -/
theorem wpList_append_src {e t tx : TypeId} {size bytes : Nat} {z : Value} (hinfo : (Tryd.prog.info? e).map (fun i => (i.zero, i.size, i.bytes)) = some (some z, size, bytes)) (hzc : z.cells.size = size) (ht : Tryd.prog.underlying t = some (.slice e)) (hby : bytes ≤ 64) (w : World) {ops : Array Oper} {rest : List Oper} {o : Oper} {a : Act} {Q : Exit → Act → World → Prop}
    (hgd : o.guard = none) (s x : Operand) (ho : o.op = .call { callee := .builtin .append, args := #[s, x], argTypes := #[t, tx] }) (base : Nat) (v : Value) (n : Nat) (xs : List Value) (hs : a.eval s = v) (hown : w.ownsRow base e size v n xs)
    (u : Value) (m : Nat) (news : List Value) (hx : a.eval x = u) (hsrc : Src Tryd.prog size tx u m news w) (hlen : n + m ≤ 1000000000) (hbase : base ≤ w.heap.size)
    (h : ∀ y c w', w'.ownsRow base e size (.slice y (n + m) c) (n + m) (xs ++ news) → w.grownBy w' v.ownBlock → ((Value.slice y (n + m) c).ownBlock = v.ownBlock ∨ (Value.slice y (n + m) c).ownBlock = some w.heap.size) → wpList Tryd.prog ops Q rest (a.put o.dst (.slice y (n + m) c)) w') :
    wpList Tryd.prog ops Q (o :: rest) a w := by
  refine wpList_plain hgd fun K' hK' => ?_
  obtain ⟨y, c, w', hr, h2, h3, h4⟩ := run_append_src hinfo hzc ht hby w o.type base v n xs hown u m news hsrc hlen hbase
  unfold Oper.wp execOp
  simp only [ho, resolve, invoke, builtin, Sem.run_bind, Sem.run_pure, Result.andThen_ok, List.map_toArray, List.map_cons, List.map_nil, hs, hx, hr]
  exact hK' _ _ (h y c w' h2 h3 h4)
/-- At a step of a region that draws its order. -/
theorem step_append_src {e t tx : TypeId} {size bytes : Nat} {z : Value} (hinfo : (Tryd.prog.info? e).map (fun i => (i.zero, i.size, i.bytes)) = some (some z, size, bytes)) (hzc : z.cells.size = size) (ht : Tryd.prog.underlying t = some (.slice e)) (hby : bytes ≤ 64) {ops : Array Oper} {o : Oper} {a : Act} {w : World} {K : Act → World → Prop} {Q : Exit → Act → World → Prop} {E : Prop} (hgd : o.guard = none) (s x : Operand)
    (ho : o.op = .call { callee := .builtin .append, args := #[s, x], argTypes := #[t, tx] }) (base : Nat) (v : Value) (n : Nat) (xs : List Value) (hs : a.eval s = v) (hown : w.ownsRow base e size v n xs)
    (u : Value) (m : Nat) (news : List Value) (hx : a.eval x = u) (hsrc : Src Tryd.prog size tx u m news w) (hlen : n + m ≤ 1000000000) (hbase : base ≤ w.heap.size)
    (h : ∀ y c w', w'.ownsRow base e size (.slice y (n + m) c) (n + m) (xs ++ news) → w.grownBy w' v.ownBlock → ((Value.slice y (n + m) c).ownBlock = v.ownBlock ∨ (Value.slice y (n + m) c).ownBlock = some w.heap.size) → K (a.put o.dst (.slice y (n + m) c)) w') :
    if Region.wanted o (yielded ops a.tmps) = true then Oper.wp Tryd.prog o a w K Q else E := by
  have hw : Region.wanted o (yielded ops a.tmps) = true := by simp [Region.wanted, hgd]
  rw [if_pos hw]
  obtain ⟨y, c, w', hr, h2, h3, h4⟩ := run_append_src hinfo hzc ht hby w o.type base v n xs hown u m news hsrc hlen hbase
  unfold Oper.wp execOp
  simp only [ho, resolve, invoke, builtin, Sem.run_bind, Sem.run_pure, Result.andThen_ok, List.map_toArray, List.map_cons, List.map_nil, hs, hx, hr]
  exact h y c w' h2 h3 h4
/-- A call of a Go function as one step of a region that draws. -/
theorem step_call {P : Program} {ops : Array Oper} {o : Oper} {a : Act} {w : World} {K : Act → World → Prop} {Q : Exit → Act → World → Prop} {E : Prop} (hg : o.guard = none) (f : FuncId) (xs : Array Operand) (ts : Array TypeId)
    (_ho : o.op = Op.call { callee := Callee.value (.func f), args := xs, argTypes := ts }) (args : Array Value) (hrun : (execOp a.eval o).run P w = .ok (.enter f args) w)
    (h : Calls P f args w fun e w' => match e with
      | .returned v => K (a.put o.dst v) w'
      | .panicked chain => Q (.panic chain) a w'
      | .outgrown => LetsOut Q) : if Region.wanted o (yielded ops a.tmps) = true then Oper.wp P o a w K Q else E := by
  have hw : Region.wanted o (yielded ops a.tmps) = true := by simp [Region.wanted, hg]
  rw [if_pos hw]
  unfold Oper.wp
  rw [hrun, Oper.upon_enter]
  refine h.mono ?_
  intro e w' he
  cases e <;> exact he
theorem own_fresh (w : World) (base : Nat) (e : TypeId) (size : Nat) (hb : base ≤ w.heap.size) : (w.alloc (.cells #[] e)).ownsRow base e size (.slice (some ⟨w.heap.size, 0, none⟩) 0 0) 0 [] :=
  ⟨by simp, .inr ⟨w.heap.size, 0, #[], rfl, hb, heap_alloc_new w _, Nat.le_refl _, Nat.zero_le _, by simp, by simp⟩⟩

theorem Kind.row_cells {α : Type} (K : Kind α) {w : World} {S : Nat → Prop} : ∀ {l : List α} {b o : Nat}, K.row w S (some ⟨b, o, none⟩) l →
    ∃ cs, K.lay w S cs l ∧ cs.length = l.length * K.n ∧ (∀ j u, cs[j]? = some u → w.cell? ⟨b, o + j, none⟩ = some u) ∧ ∀ u ∈ cs, u.oneCell' = true
  | [], b, o, _ => ⟨[], rfl, by simp, fun j u h => by simp at h, fun u h => by cases h⟩
  | x :: l, b, o, h => by
    obtain ⟨b', o', cs, e, hS, hc, hC, hr⟩ := h
    have e' : b' = b ∧ o' = o := by simpa [eq_comm] using e
    obtain ⟨rfl, rfl⟩ := e'
    obtain ⟨ds, h1, h2, h3, h4⟩ := Kind.row_cells K hr
    have hl := K.len hC
    refine ⟨cs ++ ds, ⟨cs, ds, rfl, hC, h1⟩, by rw [List.length_append, hl, h2, List.length_cons, Nat.succ_mul]; omega, fun j u hj => ?_, fun u hu => ?_⟩
    · rcases Nat.lt_or_ge j cs.length with hlt | hge
      · rw [List.getElem?_append_left hlt] at hj; exact hc j u hj
      · rw [List.getElem?_append_right hge] at hj
        have := h3 _ u hj
        rw [hl] at this hge
        rw [show o' + K.n + (j - K.n) = o' + j by omega] at this
        exact this
    · rcases List.mem_append.1 hu with h | h
      · exact K.one hC u h
      · exact h4 u h
/-- A slice of data as what is appended. -/
theorem Kind.src {α : Type} (K : Kind α) {w : World} {S : Nat → Prop} {tx e' : TypeId} (hk : Tryd.prog.underlying tx = some (.slice e')) {a : Option Addr} {l : List α} {c : Nat} (h : K.row w S a l) :
    ∃ cs, K.lay w S cs l ∧ Src Tryd.prog K.n tx (.slice a l.length c) l.length cs w := by
  cases l with
  | nil =>
    cases a with
    | none => exact ⟨[], rfl, Src.ofNil w hk c⟩
    | some a => exact ⟨[], rfl, Src.ofSlice w hk a 0 c [] (by simp) (fun j u hj => by simp at hj) fun u hu => by cases hu⟩
  | cons x l =>
    obtain ⟨b, o, cs, e, hr⟩ := h
    subst e
    obtain ⟨cs, h1, h2, h3, h4⟩ := K.row_cells (l := x :: l) ⟨b, o, cs, rfl, hr⟩
    refine ⟨cs, h1, Src.ofSlice w hk ⟨b, o, none⟩ _ c cs h2 (fun j u hj => ?_) h4⟩
    have e : (⟨b, o, none⟩ : Addr).add j = ⟨b, o + j, none⟩ := by unfold Addr.add; split <;> simp_all
    rw [e]; exact h3 j u hj
theorem ty_info : (Tryd.prog.info? 38).map (fun i => (i.zero, i.size, i.bytes)) = some (some (.agg #[.bool false, .int .i64 0]), 2, 16) := by kernel_rfl
theorem sg_info : (Tryd.prog.info? 33).map (fun i => (i.zero, i.size, i.bytes)) = some (some (.agg #[.string ⟨#[]⟩, .slice none 0 0, .bool false]), 3, 48) := by kernel_rfl
theorem by_info : (Tryd.prog.info? 5).map (fun i => (i.zero, i.size, i.bytes)) = some (some (.int .u8 0), 1, 1) := by kernel_rfl
end Go.Proofs.YtlagadofiahijaaDoor
