/- NODES APPENDED TO NODES: a law for the walk; where what came of it lies. -/
import Derived.Test.YtbedhghcdhbkmaaKept
import Derived.Test.YtbedhghcdhbkmaaRows
import Derived.OwnWalk
import Derived.ProofKit
import Derived.WalkKit
namespace Go.Proofs.Ytbedhghcdhbkmaa
open Go.RowKit

theorem join_info37 : (Try.prog.info? 37).map (fun i => (i.zero, i.size, i.bytes)) = some (some (.agg #[.bool false, .string ⟨#[]⟩, .slice none 0 0, .int .i64 0]), 4, 56) := by kernel_rfl

/-- The cells of a row. -/
theorem Row.lay {S : Nat → Prop} {w : World} {a : Option Addr} {l : List Nd} (h : Row S w a l) : ∃ xs, Lay S w xs l ∧ xs.length = l.length * 4 ∧ (∀ u ∈ xs, u.oneCell' = true) ∧ (a = none → l = []) ∧ ∀ b o, a = some ⟨b, o, none⟩ → ∀ j u, xs[j]? = some u → w.cell? ⟨b, o + j, none⟩ = some u := by
  induction h with
  | nil a => exact ⟨[], .nil, rfl, (fun _ h => by cases h), (fun _ => rfl), (fun _ _ _ j u h => by simp at h)⟩
  | cons b o il wd ks p r a c hS h0 h1 h2 h3 hk hr ihk ihr =>
    obtain ⟨xs, q1, q2, q3, _, q5⟩ := ihr
    refine ⟨_, .cons il wd ks p a c xs r hk q1, by simp only [List.length_cons, q2]; omega, ?_, (fun h => by cases h), ?_⟩
    · intro u hu
      simp only [List.mem_cons] at hu
      rcases hu with rfl | rfl | rfl | rfl | hu
      · rfl
      · rfl
      · rfl
      · rfl
      · exact q3 u hu
    · intro b' o' he j u hj
      simp only [Option.some.injEq, Addr.mk.injEq, and_true] at he
      obtain ⟨rfl, rfl⟩ := he
      match j with
      | 0 => simp at hj; subst hj; exact h0
      | 1 => simp at hj; subst hj; exact h1
      | 2 => simp at hj; subst hj; exact h2
      | 3 => simp at hj; subst hj; exact h3
      | j + 4 =>
        have := q5 b (o + 4) rfl j u (by simpa using hj)
        rw [← this]
        congr 2
        omega

theorem Row.form {S : Nat → Prop} {w : World} {a : Option Addr} {l : List Nd} (h : Row S w a l) : l = [] ∨ ∃ b o, a = some ⟨b, o, none⟩ := by
  cases h with
  | nil => exact .inl rfl
  | cons b o => exact .inr ⟨b, o, rfl⟩

theorem Lay.app {S : Nat → Prop} {w : World} {xs ys : List Value} {l m : List Nd} (h : Lay S w xs l) (k : Lay S w ys m) : Lay S w (xs ++ ys) (l ++ m) := by
  induction h with
  | nil => exact k
  | cons il wd ks p a c xs l hk hl ih => exact .cons il wd ks p a c _ _ hk ih

theorem run_append_rows (w : World) (ty : TypeId) (base : Nat) (v : Value) (n : Nat) (xs : List Value) (hown : w.ownsRow base 37 4 v n xs) (S : Nat → Prop) (x : Option Addr) (l : List Nd) (c : Nat) (hr : Row S w x l) (hlen : n + l.length ≤ 1000000000) (hbase : base ≤ w.heap.size) :
    ∃ v' w' ys, (Builtin.append_ #[23, 23] ty #[v, .slice x l.length c]).run Try.prog w = .ok v' w' ∧ Lay S w ys l ∧ w'.ownsRow base 37 4 v' (n + l.length) (xs ++ ys) ∧ w.grownBy w' v.ownBlock := by
  obtain ⟨i0, hi0, hz0, hz1, hz2⟩ := info_parts join_info37
  obtain ⟨ys, h1, h2, h3, h4, h5⟩ := hr.lay
  rcases hr.form with rfl | ⟨b, o, rfl⟩
  · have hys : ys = [] := List.eq_nil_of_length_eq_zero (by simpa using h2)
    subst hys
    cases x with
    | none =>
      refine ⟨v, w, [], ?_, h1, by simpa using hown, ⟨rfl, rfl, rfl, Nat.le_refl _, fun _ _ _ => rfl⟩⟩
      rcases hown.2 with ⟨rfl, rfl⟩ | ⟨g, cap, cur, rfl, _, _, hnc, _⟩
      · simp [Builtin.append_, run_underlying Try.underlying23, sizeOf, typeInfo, hi0, Builtin.lenOf, Builtin.firstCells]
      · simp [Builtin.append_, run_underlying Try.underlying23, sizeOf, typeInfo, hi0, Builtin.lenOf, Builtin.firstCells, hnc, storeCells]
    | some a =>
      obtain ⟨v', w', q1, q2, q3, _⟩ := run_append_own (P := Try.prog) w base 23 ty 37 i0 _ 4 56 Try.underlying23 hi0 hz0 hz1 hz2 rfl (by omega) v n xs hown a 0 c [] rfl (fun j u h => by simp at h) (fun _ h => by cases h) (by unfold maxLen; simp at hlen; omega) (by simp at hlen; omega) hbase
      exact ⟨v', w', [], q1, h1, by simpa using q2, q3⟩
  · obtain ⟨v', w', q1, q2, q3, _⟩ := run_append_own (P := Try.prog) w base 23 ty 37 i0 _ 4 56 Try.underlying23 hi0 hz0 hz1 hz2 rfl (by omega) v n xs hown ⟨b, o, none⟩ l.length c ys (by rw [h2]) (fun j u h => by
      have := h5 b o rfl j u h
      have e : (⟨b, o, none⟩ : Addr).add j = ⟨b, o + j, none⟩ := by unfold Addr.add; split <;> simp_all
      rw [e]; exact this) h3 (by unfold maxLen; omega) (by omega) hbase
    exact ⟨v', w', ys, q1, h1, q2, q3⟩

theorem wpList_append_rows {w : World} {ops : Array Oper} {rest : List Oper} {o : Oper} {a : Act} {Q : Exit → Act → World → Prop} (hgd : o.guard = none) (s x : Operand)
    (ho : o.op = .call { callee := .builtin .append, args := #[s, x], argTypes := #[23, 23] }) (base : Nat) (v : Value) (n : Nat) (xs : List Value) (hs : a.eval s = v) (hown : w.ownsRow base 37 4 v n xs)
    (S : Nat → Prop) (y : Option Addr) (l : List Nd) (c : Nat) (hx : a.eval x = .slice y l.length c) (hr : Row S w y l) (hlen : n + l.length ≤ 1000000000) (hbase : base ≤ w.heap.size)
    (h : ∀ v' w' ys, Lay S w ys l → w'.ownsRow base 37 4 v' (n + l.length) (xs ++ ys) → w.grownBy w' v.ownBlock → wpList Try.prog ops Q rest (a.put o.dst v') w') : wpList Try.prog ops Q (o :: rest) a w := by
  refine wpList_plain hgd fun K hK => ?_
  obtain ⟨v', w', ys, hr', h1, h2, h3⟩ := run_append_rows w o.type base v n xs hown S y l c hr hlen hbase
  unfold Oper.wp execOp
  simp only [ho, resolve, invoke, builtin, Sem.run_bind, Sem.run_pure, Result.andThen_ok, List.map_toArray, List.map_cons, List.map_nil, hs, hx, hr']
  exact hK _ _ (h v' w' ys h1 h2 h3)

theorem join_rows {H : Nat} {W w5 w6 : World} {v6 : Value} {l m : List Nd} {ys zs : List Value} (hl : Lay (fun b => b < H) W ys l) (hm : Lay (fun b => b < H) w5 zs m) (h1 : Below H W w6) (h2 : Below H w5 w6)
    (ho : w6.ownsRow H 37 4 v6 (0 + l.length + m.length) ([] ++ ys ++ zs)) : ∃ x c L, Hid (L = (l ++ m).length) ∧ v6 = .slice x L c ∧ Row (fun _ => True) w6 x (l ++ m) := by
  have hk : Kids (fun b => b < H) w6 H v6 (l ++ m) := ⟨ys ++ zs, by simpa using ho, (hl.mono fun b hb _ => ⟨hb, h1.block b hb⟩).app (hm.mono fun b hb _ => ⟨hb, h2.block b hb⟩)⟩
  obtain ⟨x, c, rfl, hr⟩ := hk.rd (T := fun _ => True) (fun _ _ => trivial) (fun _ _ => trivial)
  exact ⟨x, c, _, rfl, rfl, hr⟩
theorem grown_below {H : Nat} {w w' : World} {row : Option Nat} (hg : w.grownBy w' row) (hs : H ≤ w.heap.size) (hr : ∀ k, row = some k → H ≤ k) : Below H w w' := (Below.refl _ _).grown hg hs hr
end Go.Proofs.Ytbedhghcdhbkmaa
