/- UNITS THAT CAME IN: what a reading of them says of memory. -/
import Derived.Test.YtlagadofiahijaaDoorSBase
import Derived.ChangeArms
import Derived.WideShapes
namespace Go.Proofs.YtlagadofiahijaaDoor.Sh
open Go.ChangeShapes Go.WideShapes Go.ChangeAt Go.RowKit

theorem cell_spot {w : World} {a : Addr} {v : Value} (h : w.cell? a = some v) : a.spot = none := by
  unfold World.cell? at h
  split at h
  · split at h
    · cases h
    · rename_i hs
      cases hx : a.spot with
      | none => rfl
      | some _ => rw [hx] at hs; exact absurd rfl hs
  · cases h
theorem add_none (b o k : Nat) : (⟨b, o, none⟩ : Addr).add k = ⟨b, o + k, none⟩ := by unfold Addr.add; split <;> simp_all

/-- A slice of data that came in, whatever their sort, if each of them may be opened. -/
theorem came_row {α : Type} (K : Kind α) (hn : 0 < K.n) {H : Type} {enc : TypeId × Value → H} {w : World} {base : Nat} {sp : Nat → Bool} {held : Bool} {t e : TypeId} (ht : Tryd.prog.underlying t = some (.slice e)) (hce : Tryd.prog.cellsOf e = K.n)
    (Q : α → Prop) (fuel : Nat)
    (op : ∀ (n : Nat) (cs : List Value) (x : DataW H × List MemPlace), n < fuel → DataW.trod enc Tryd.prog w base sp held n e cs = some x → ∃ y : α, K.C w (fun _ => True) cs y ∧ Q y) (cs : List Value) (x : DataW H × List MemPlace) (h : DataW.trod enc Tryd.prog w base sp held fuel t cs = some x) :
    ∃ a l c, cs = [.slice a (List.length l) c] ∧ K.row w (fun _ => True) a l ∧ l.length ≤ c ∧ l.length ≤ maxLen ∧ ∀ y ∈ l, Q y := by
  rcases DataW.trod_slice ht h with ⟨rfl, _⟩ | ⟨a, len, cap, elems, rest, n, rfl, rfl, _, _, hlc, hcap, hel, hcells, _⟩
  · exact ⟨none, [], 0, rfl, trivial, Nat.le_refl _, Nat.zero_le _, fun y hy => by cases hy⟩
  · rw [hce] at hcells
    have hspot : 0 < len → a.spot = none := by
      intro h0
      have hb := hcells 0 h0
      rw [List.getElem?_eq_getElem (by omega)] at hb
      rcases hc : w.cells? base (a.add (0 * K.n)) K.n with _ | cs'
      · rw [hc] at hb; cases hb
      · obtain ⟨_, hl4, hcl⟩ := World.cells?_some hc
        have q0 := hcl 0 (by omega)
        rw [List.getElem?_eq_getElem (by omega)] at q0
        have := cell_spot q0
        simpa [Addr.add] using this
    have one : ∀ i, i < len → ∃ (cs' : List Value) (y : α), a.spot = none ∧ (∀ j u, cs'[j]? = some u → w.cell? ⟨a.block, a.off + i * K.n + j, none⟩ = some u) ∧ K.C w (fun _ => True) cs' y ∧ Q y := by
      intro i hi
      have hb := hcells i hi
      rw [List.getElem?_eq_getElem (by omega)] at hb
      rcases hc : w.cells? base (a.add (i * K.n)) K.n with _ | cs'
      · rw [hc] at hb; cases hb
      · rw [hc] at hb
        obtain ⟨y, hy⟩ := op _ _ _ (by omega) hb
        obtain ⟨_, hl, hcl⟩ := World.cells?_some hc
        have hsp : a.spot = none := hspot (by omega)
        refine ⟨cs', y, hsp, fun j u hj => ?_, hy⟩
        obtain ⟨b, o, _⟩ := a
        simp only at hsp
        subst hsp
        have hjl : j < K.n := by
          rcases Nat.lt_or_ge j K.n with h | h
          · exact h
          · rw [List.getElem?_eq_none (by omega)] at hj; cases hj
        have q := hcl j hjl
        rw [hj, add_none, add_none] at q
        exact q
    have build : ∀ m k, m = len - k → k ≤ len → ∃ l : List α, l.length = m ∧ K.row w (fun _ => True) (some ⟨a.block, a.off + k * K.n, none⟩) l ∧ ∀ y ∈ l, Q y := by
      intro m
      induction m with
      | zero => intro k _ _; exact ⟨[], rfl, trivial, fun y hy => by cases hy⟩
      | succ m ihm =>
        intro k hm hk
        obtain ⟨l, hl, hr, hQ⟩ := ihm (k + 1) (by omega) (by omega)
        obtain ⟨cs', y, _, hq, hy, hy'⟩ := one k (by omega)
        refine ⟨y :: l, by simp [hl], ⟨a.block, a.off + k * K.n, cs', rfl, trivial, hq, hy, ?_⟩, fun z hz => by rcases List.mem_cons.1 hz with rfl | hz; exact hy'; exact hQ z hz⟩
        rw [show a.off + k * K.n + K.n = a.off + (k + 1) * K.n by rw [Nat.succ_mul]; omega]
        exact hr
    obtain ⟨l, hl, hr, hQ⟩ := build len 0 (by omega) (by omega)
    subst hl
    by_cases h0 : l = []
    · subst h0
      exact ⟨some a, [], cap, rfl, trivial, Nat.zero_le _, Nat.zero_le _, hQ⟩
    · have hsp : a.spot = none := hspot (List.length_pos_iff.2 h0)
      obtain ⟨b, o, _⟩ := a
      simp only at hsp
      subst hsp
      exact ⟨some ⟨b, o, none⟩, l, cap, rfl, by simpa using hr, by omega, by omega, hQ⟩

theorem cells_one : Tryd.prog.cellsOf 4 = 1 ∧ Tryd.prog.cellsOf 9 = 1 ∧ Tryd.prog.cellsOf 3 = 1 ∧ Tryd.prog.cellsOf 46 = 1 ∧ Tryd.prog.cellsOf 47 = 1 ∧ Tryd.prog.cellsOf 45 = 1 ∧ Tryd.prog.cellsOf 44 = 1 ∧ Tryd.prog.cellsOf 23 = 1 ∧ Tryd.prog.cellsOf 22 = 1 := ⟨by kernel_rfl, by kernel_rfl, by kernel_rfl, by kernel_rfl, by kernel_rfl, by kernel_rfl, by kernel_rfl, by kernel_rfl, by kernel_rfl⟩
theorem cells_ty : Tryd.prog.cellsOf 38 = 2 := by kernel_rfl
theorem cells_ex : Tryd.prog.cellsOf 49 = 5 := by kernel_rfl
theorem cells_sm : Tryd.prog.cellsOf 64 = 18 := by kernel_rfl
theorem cells_pa : Tryd.prog.cellsOf 55 = 3 := by kernel_rfl
theorem cells_fu : Tryd.prog.cellsOf 51 = 9 := by kernel_rfl
theorem cells_un : Tryd.prog.cellsOf 25 = 3 := by kernel_rfl
theorem u32_nat {z : Int} (h : (Lit.int .u32 z).wf = true) : ∃ n : Nat, z = n ∧ n ≤ 4294967295 := by
  have : 0 ≤ z ∧ z ≤ 4294967295 := by simpa [Lit.wf, IntKind.min, IntKind.max, IntKind.signed, IntKind.bits] using h
  exact ⟨z.toNat, by omega, by omega⟩
theorem exOks_of : ∀ (l : List Ex), (∀ y ∈ l, exOk y) → exOks l
  | [], _ => by rw [exOks]; trivial
  | x :: l, h => by rw [exOks]; exact ⟨h x (by simp), exOks_of l fun y hy => h y (by simp [hy])⟩
theorem smOks_of : ∀ (l : List Sm), (∀ y ∈ l, smOk y) → smOks l
  | [], _ => by rw [smOks]; trivial
  | x :: l, h => by rw [smOks]; exact ⟨h x (by simp), smOks_of l fun y hy => h y (by simp [hy])⟩
set_option maxRecDepth 100000 in
theorem open_ty {H : Type} {enc : TypeId × Value → H} {w : World} {base : Nat} {sp : Nat → Bool} {held : Bool} (fuel : Nat) (cs : List Value) (x : DataW H × List MemPlace) (h : DataW.trod enc Tryd.prog w base sp held fuel 38 cs = some x) : ∃ (b : Bool) (q : Int), cs = [.bool b, .int .i64 q] := by
  obtain ⟨xs, n, hf, _, hl, hlen, hx⟩ := DataW.trod_struct Tryd.underlying38 h
  rw [cells_ty] at hl
  obtain ⟨cb, cst, ci, cu, ce, cs', cp, cf, cn⟩ := cells_one
  match cs, hl, xs, hlen with
  | [v0, v1], _, [y0, y1], _ =>
    have h0 : DataW.trod enc Tryd.prog w base sp held n 4 (List.take (Tryd.prog.cellsOf 4) (List.drop 0 [v0, v1])) = some y0 := hx 0 _ rfl
    have h1 : DataW.trod enc Tryd.prog w base sp held n 3 (List.take (Tryd.prog.cellsOf 3) (List.drop 1 [v0, v1])) = some y1 := hx 1 _ rfl
    rw [cb] at h0
    rw [ci] at h1
    obtain ⟨b, hb, _⟩ := DataW.trod_bool Tryd.underlying4 h0
    obtain ⟨q, hq, _⟩ := DataW.trod_int Tryd.underlying3 h1
    simp at hb hq
    subst hb hq
    exact ⟨b, q, rfl⟩
set_option maxRecDepth 100000 in
theorem open_ex {H : Type} {enc : TypeId × Value → H} {w : World} {base : Nat} {sp : Nat → Bool} {held : Bool} (fuel : Nat) : ∀ (cs : List Value) (x : DataW H × List MemPlace), DataW.trod enc Tryd.prog w base sp held fuel 49 cs = some x → ∃ y : Ex, kEx.C w (fun _ => True) cs y ∧ exOk y := by
  induction fuel using Nat.strongRecOn with
  | _ fuel ih =>
    intro cs x h
    obtain ⟨xs, n, hf, _, hl, hlen, hx⟩ := DataW.trod_struct Tryd.underlying49 h
    rw [cells_ex] at hl
    obtain ⟨cb, cst, ci, cu, ce, cs', cp, cf, cn⟩ := cells_one
    match cs, hl, xs, hlen with
    | [v0, v1, v2, v3, v4], _, [y0, y1, y2, y3, y4], _ =>
      have h0 : DataW.trod enc Tryd.prog w base sp held n 3 (List.take (Tryd.prog.cellsOf 3) (List.drop 0 [v0, v1, v2, v3, v4])) = some y0 := hx 0 _ rfl
      rw [ci] at h0
      have h1 : DataW.trod enc Tryd.prog w base sp held n 46 (List.take (Tryd.prog.cellsOf 46) (List.drop 1 [v0, v1, v2, v3, v4])) = some y1 := hx 1 _ rfl
      rw [cu] at h1
      have h2 : DataW.trod enc Tryd.prog w base sp held n 3 (List.take (Tryd.prog.cellsOf 3) (List.drop 2 [v0, v1, v2, v3, v4])) = some y2 := hx 2 _ rfl
      rw [ci] at h2
      have h3 : DataW.trod enc Tryd.prog w base sp held n 9 (List.take (Tryd.prog.cellsOf 9) (List.drop 3 [v0, v1, v2, v3, v4])) = some y3 := hx 3 _ rfl
      rw [cst] at h3
      have h4 : DataW.trod enc Tryd.prog w base sp held n 47 (List.take (Tryd.prog.cellsOf 47) (List.drop 4 [v0, v1, v2, v3, v4])) = some y4 := hx 4 _ rfl
      rw [ce] at h4
      obtain ⟨q0, e0, _⟩ := DataW.trod_int Tryd.underlying3 h0
      obtain ⟨q1, e1, _, w1⟩ := DataW.trod_int Tryd.underlying46 h1
      obtain ⟨q2, e2, _⟩ := DataW.trod_int Tryd.underlying3 h2
      obtain ⟨q3, e3, _⟩ := DataW.trod_string Tryd.underlying9 h3
      obtain ⟨a, l, c, e4, hr, hlc, _, hQ⟩ := came_row kEx (by decide) Tryd.underlying47 cells_ex exOk n (fun m cs x hm h => ih m (by omega) cs x h) _ y4 h4
      obtain ⟨m, rfl, hm⟩ := u32_nat w1
      simp at e0 e1 e2 e3 e4
      subst e0 e1 e2 e3 e4
      refine ⟨.mk q0 m q2 q3.data.toList l, ?_, by rw [exOk]; exact ⟨hm, exOks_of l hQ⟩⟩
      show exC _ _ _ _
      rw [exC]
      exact ⟨a, c, by rw [bs_of], hlc, (exR_row _ _ _ _).2 hr⟩
set_option maxRecDepth 100000 in
set_option maxHeartbeats 1000000 in
theorem open_sm {H : Type} {enc : TypeId × Value → H} {w : World} {base : Nat} {sp : Nat → Bool} {held : Bool} (fuel : Nat) : ∀ (cs : List Value) (x : DataW H × List MemPlace), DataW.trod enc Tryd.prog w base sp held fuel 64 cs = some x → ∃ y : Sm, kSm.C w (fun _ => True) cs y ∧ smOk y := by
  induction fuel using Nat.strongRecOn with
  | _ fuel ih =>
    intro cs x h
    obtain ⟨xs, n, hf, _, hl, hlen, hx⟩ := DataW.trod_struct Tryd.underlying64 h
    rw [cells_sm] at hl
    obtain ⟨cb, cst, ci, cu, ce, cs', cp, cf, cn⟩ := cells_one
    match cs, hl, xs, hlen with
    | [v0, v1, v2, v3, v4, v5, v6, v7, v8, v9, v10, v11, v12, v13, v14, v15, v16, v17], _, [y0, y1, y2, y3, y4, y5, y6, y7, y8], _ =>
      have h0 : DataW.trod enc Tryd.prog w base sp held n 3 (List.take (Tryd.prog.cellsOf 3) (List.drop 0 [v0, v1, v2, v3, v4, v5, v6, v7, v8, v9, v10, v11, v12, v13, v14, v15, v16, v17])) = some y0 := hx 0 _ rfl
      rw [ci] at h0
      have h1 : DataW.trod enc Tryd.prog w base sp held n 9 (List.take (Tryd.prog.cellsOf 9) (List.drop 1 [v0, v1, v2, v3, v4, v5, v6, v7, v8, v9, v10, v11, v12, v13, v14, v15, v16, v17])) = some y1 := hx 1 _ rfl
      rw [cst] at h1
      have h2 : DataW.trod enc Tryd.prog w base sp held n 38 (List.take (Tryd.prog.cellsOf 38) (List.drop 2 [v0, v1, v2, v3, v4, v5, v6, v7, v8, v9, v10, v11, v12, v13, v14, v15, v16, v17])) = some y2 := hx 2 _ rfl
      rw [cells_ty] at h2
      have h3 : DataW.trod enc Tryd.prog w base sp held n 3 (List.take (Tryd.prog.cellsOf 3) (List.drop 4 [v0, v1, v2, v3, v4, v5, v6, v7, v8, v9, v10, v11, v12, v13, v14, v15, v16, v17])) = some y3 := hx 3 _ rfl
      rw [ci] at h3
      have h4 : DataW.trod enc Tryd.prog w base sp held n 3 (List.take (Tryd.prog.cellsOf 3) (List.drop 5 [v0, v1, v2, v3, v4, v5, v6, v7, v8, v9, v10, v11, v12, v13, v14, v15, v16, v17])) = some y4 := hx 4 _ rfl
      rw [ci] at h4
      have h5 : DataW.trod enc Tryd.prog w base sp held n 49 (List.take (Tryd.prog.cellsOf 49) (List.drop 6 [v0, v1, v2, v3, v4, v5, v6, v7, v8, v9, v10, v11, v12, v13, v14, v15, v16, v17])) = some y5 := hx 5 _ rfl
      rw [cells_ex] at h5
      have h6 : DataW.trod enc Tryd.prog w base sp held n 49 (List.take (Tryd.prog.cellsOf 49) (List.drop 11 [v0, v1, v2, v3, v4, v5, v6, v7, v8, v9, v10, v11, v12, v13, v14, v15, v16, v17])) = some y6 := hx 6 _ rfl
      rw [cells_ex] at h6
      have h7 : DataW.trod enc Tryd.prog w base sp held n 45 (List.take (Tryd.prog.cellsOf 45) (List.drop 16 [v0, v1, v2, v3, v4, v5, v6, v7, v8, v9, v10, v11, v12, v13, v14, v15, v16, v17])) = some y7 := hx 7 _ rfl
      rw [cs'] at h7
      have h8 : DataW.trod enc Tryd.prog w base sp held n 45 (List.take (Tryd.prog.cellsOf 45) (List.drop 17 [v0, v1, v2, v3, v4, v5, v6, v7, v8, v9, v10, v11, v12, v13, v14, v15, v16, v17])) = some y8 := hx 8 _ rfl
      rw [cs'] at h8
      obtain ⟨q0, e0, _⟩ := DataW.trod_int Tryd.underlying3 h0
      obtain ⟨q1, e1, _⟩ := DataW.trod_string Tryd.underlying9 h1
      obtain ⟨b2, q2, e2⟩ := open_ty n _ y2 h2
      obtain ⟨q3, e3, _⟩ := DataW.trod_int Tryd.underlying3 h3
      obtain ⟨q4, e4, _⟩ := DataW.trod_int Tryd.underlying3 h4
      obtain ⟨⟨k1, n1, o1, m1, l1⟩, e5, p5⟩ := open_ex n _ y5 h5
      obtain ⟨⟨k2, n2, o2, m2, l2⟩, e6, p6⟩ := open_ex n _ y6 h6
      obtain ⟨a3, l3, c3, e7, r3, g3, _, Q3⟩ := came_row kSm (by decide) Tryd.underlying45 cells_sm smOk n (fun m cs x hm h => ih m (by omega) cs x h) _ y7 h7
      obtain ⟨a4, l4, c4, e8, r4, g4, _, Q4⟩ := came_row kSm (by decide) Tryd.underlying45 cells_sm smOk n (fun m cs x hm h => ih m (by omega) cs x h) _ y8 h8
      have e5' : exC w _ _ _ := e5
      have e6' : exC w _ _ _ := e6
      rw [exC] at e5' e6'
      obtain ⟨a1, c1, e5, g1, r1⟩ := e5'
      obtain ⟨a2, c2, e6, g2, r2⟩ := e6'
      simp at e0 e1 e2 e3 e4 e5 e6 e7 e8
      obtain ⟨e2a, e2b⟩ := e2
      obtain ⟨e5a, e5b, e5c, e5d, e5e⟩ := e5
      obtain ⟨e6a, e6b, e6c, e6d, e6e⟩ := e6
      subst e0 e1 e2a e2b e3 e4 e5a e5b e5c e5d e5e e6a e6b e6c e6d e6e e7 e8
      refine ⟨.mk q0 q1.data.toList b2 q2 q3 q4 (.mk k1 n1 o1 m1 l1) (.mk k2 n2 o2 m2 l2) l3 l4, ?_, by rw [smOk]; exact ⟨p5, p6, smOks_of l3 Q3, smOks_of l4 Q4⟩⟩
      show smC _ _ _ _
      rw [smC_mk]
      exact ⟨a1, c1, a2, c2, a3, c3, a4, c4, by rw [bs_of], g1, g2, g3, g4, r1, r2, (smR_row _ _ _ _).2 r3, (smR_row _ _ _ _).2 r4⟩
set_option maxRecDepth 100000 in
theorem open_pa {H : Type} {enc : TypeId × Value → H} {w : World} {base : Nat} {sp : Nat → Bool} {held : Bool} (fuel : Nat) (cs : List Value) (x : DataW H × List MemPlace) (h : DataW.trod enc Tryd.prog w base sp held fuel 55 cs = some x) : ∃ y : Pa, kPa.C w (fun _ => True) cs y ∧ True := by
  obtain ⟨xs, n, hf, _, hl, hlen, hx⟩ := DataW.trod_struct Tryd.underlying55 h
  rw [cells_pa] at hl
  obtain ⟨cb, cst, ci, cu, ce, cs', cp, cf, cn⟩ := cells_one
  match cs, hl, xs, hlen with
  | [v0, v1, v2], _, [y0, y1], _ =>
    have h0 : DataW.trod enc Tryd.prog w base sp held n 9 (List.take (Tryd.prog.cellsOf 9) (List.drop 0 [v0, v1, v2])) = some y0 := hx 0 _ rfl
    have h1 : DataW.trod enc Tryd.prog w base sp held n 38 (List.take (Tryd.prog.cellsOf 38) (List.drop 1 [v0, v1, v2])) = some y1 := hx 1 _ rfl
    rw [cst] at h0
    rw [cells_ty] at h1
    obtain ⟨q0, e0, _⟩ := DataW.trod_string Tryd.underlying9 h0
    obtain ⟨b1, q1, e1⟩ := open_ty n _ y1 h1
    simp at e0 e1
    obtain ⟨e1a, e1b⟩ := e1
    subst e0 e1a e1b
    exact ⟨⟨q0.data.toList, b1, q1⟩, by show _ = _; rw [bs_of], trivial⟩
theorem open_str {H : Type} {enc : TypeId × Value → H} {w : World} {base : Nat} {sp : Nat → Bool} {held : Bool} (fuel : Nat) (cs : List Value) (x : DataW H × List MemPlace) (h : DataW.trod enc Tryd.prog w base sp held fuel 9 cs = some x) : ∃ y : List UInt8, kStr.C w (fun _ => True) cs y ∧ True := by
  obtain ⟨q0, e0, _⟩ := DataW.trod_string Tryd.underlying9 h
  exact ⟨q0.data.toList, by show _ = _; rw [bs_of]; exact e0, trivial⟩
/-- The numbers of a function are those of 32 bits. -/
def FuNum (f : Fu) : Prop := smOks f.body ∧ exOk f.result
set_option maxRecDepth 100000 in
theorem open_fu {H : Type} {enc : TypeId × Value → H} {w : World} {base : Nat} {sp : Nat → Bool} {held : Bool} (fuel : Nat) (cs : List Value) (x : DataW H × List MemPlace) (h : DataW.trod enc Tryd.prog w base sp held fuel 51 cs = some x) : ∃ y : Fu, kFu.C w (fun _ => True) cs y ∧ FuNum y := by
  obtain ⟨xs, n, hf, _, hl, hlen, hx⟩ := DataW.trod_struct Tryd.underlying51 h
  rw [cells_fu] at hl
  obtain ⟨cb, cst, ci, cu, ce, cs', cp, cf, cn⟩ := cells_one
  match cs, hl, xs, hlen with
  | [v0, v1, v2, v3, v4, v5, v6, v7, v8], _, [y0, y1, y2, y3, y4], _ =>
    have h0 : DataW.trod enc Tryd.prog w base sp held n 9 (List.take (Tryd.prog.cellsOf 9) (List.drop 0 [v0, v1, v2, v3, v4, v5, v6, v7, v8])) = some y0 := hx 0 _ rfl
    rw [cst] at h0
    have h1 : DataW.trod enc Tryd.prog w base sp held n 44 (List.take (Tryd.prog.cellsOf 44) (List.drop 1 [v0, v1, v2, v3, v4, v5, v6, v7, v8])) = some y1 := hx 1 _ rfl
    rw [cp] at h1
    have h2 : DataW.trod enc Tryd.prog w base sp held n 4 (List.take (Tryd.prog.cellsOf 4) (List.drop 2 [v0, v1, v2, v3, v4, v5, v6, v7, v8])) = some y2 := hx 2 _ rfl
    rw [cb] at h2
    have h3 : DataW.trod enc Tryd.prog w base sp held n 45 (List.take (Tryd.prog.cellsOf 45) (List.drop 3 [v0, v1, v2, v3, v4, v5, v6, v7, v8])) = some y3 := hx 3 _ rfl
    rw [cs'] at h3
    have h4 : DataW.trod enc Tryd.prog w base sp held n 49 (List.take (Tryd.prog.cellsOf 49) (List.drop 4 [v0, v1, v2, v3, v4, v5, v6, v7, v8])) = some y4 := hx 4 _ rfl
    rw [cells_ex] at h4
    obtain ⟨q0, e0, _⟩ := DataW.trod_string Tryd.underlying9 h0
    obtain ⟨a1, l1, c1, e1, r1, g1, _, _⟩ := came_row kPa (by decide) Tryd.underlying44 cells_pa (fun _ => True) n (fun m cs x _ h => open_pa m cs x h) _ y1 h1
    obtain ⟨b2, e2, _⟩ := DataW.trod_bool Tryd.underlying4 h2
    obtain ⟨a3, l3, c3, e3, r3, g3, _, Q3⟩ := came_row kSm (by decide) Tryd.underlying45 cells_sm smOk n (fun m cs x _ h => open_sm m cs x h) _ y3 h3
    obtain ⟨⟨k, m, o, nm, l⟩, e4, p4⟩ := open_ex n _ y4 h4
    have e4' : exC w _ _ _ := e4
    rw [exC] at e4'
    obtain ⟨a4, c4, e4, g4, r4⟩ := e4'
    simp at e0 e1 e2 e3 e4
    obtain ⟨e4a, e4b, e4c, e4d, e4e⟩ := e4
    subst e0 e1 e2 e3 e4a e4b e4c e4d e4e
    exact ⟨⟨q0.data.toList, l1, b2, l3, .mk k m o nm l⟩, ⟨a1, c1, a3, c3, a4, c4, by rw [bs_of], g1, g3, g4, r1, (smR_row _ _ _ _).2 r3, r4⟩, smOks_of l3 Q3, p4⟩
set_option maxRecDepth 100000 in
theorem came_unit {H : Type} {enc : TypeId × Value → H} {w : World} {base b0 : Nat} {r : Reach} {sp : Nat → Bool} {held : Bool} {v : Value} {d : DataW H} {ps : List MemPlace} (hv : Value.okWide Tryd.prog w r b0 25 v) (h : DataW.Trod enc Tryd.prog w base sp held 25 v d ps) :
    ∃ u : Un, UnV w (fun _ => True) v u ∧ ∀ f ∈ u.funcs, FuNum f := by
  obtain ⟨cs, rfl, _⟩ := okWide_struct Tryd.underlying25 hv
  obtain ⟨fuel, hf⟩ := h
  obtain ⟨xs, n, _, _, hl, hlen, hx⟩ := DataW.trod_struct Tryd.underlying25 hf
  obtain ⟨L, rfl⟩ : ∃ L : List Value, cs = L.toArray := ⟨cs.toList, by simp⟩
  simp only [Value.cells] at hl hx
  rw [cells_un] at hl
  obtain ⟨cb, cst, ci, cu, ce, cs', cp, cf, cn⟩ := cells_one
  match L, hl, xs, hlen with
  | [v0, v1, v2], _, [y0, y1, y2], _ =>
    have h0 : DataW.trod enc Tryd.prog w base sp held n 9 (List.take (Tryd.prog.cellsOf 9) (List.drop 0 [v0, v1, v2])) = some y0 := hx 0 _ rfl
    rw [cst] at h0
    have h1 : DataW.trod enc Tryd.prog w base sp held n 22 (List.take (Tryd.prog.cellsOf 22) (List.drop 1 [v0, v1, v2])) = some y1 := hx 1 _ rfl
    rw [cn] at h1
    have h2 : DataW.trod enc Tryd.prog w base sp held n 23 (List.take (Tryd.prog.cellsOf 23) (List.drop 2 [v0, v1, v2])) = some y2 := hx 2 _ rfl
    rw [cf] at h2
    obtain ⟨q0, e0, _⟩ := DataW.trod_string Tryd.underlying9 h0
    obtain ⟨a1, l1, c1, e1, r1, g1, _, _⟩ := came_row kStr (by decide) Tryd.underlying22 cst (fun _ => True) n (fun m cs x _ h => open_str m cs x h) _ y1 h1
    obtain ⟨a2, l2, c2, e2, r2, g2, _, Q2⟩ := came_row kFu (by decide) Tryd.underlying23 cells_fu FuNum n (fun m cs x _ h => open_fu m cs x h) _ y2 h2
    simp at e0 e1 e2
    subst e0 e1 e2
    exact ⟨⟨q0.data.toList, l1, l2⟩, ⟨a1, c1, a2, c2, by rw [bs_of], g1, g2, r1, r2⟩, Q2⟩
end Go.Proofs.YtlagadofiahijaaDoor.Sh
