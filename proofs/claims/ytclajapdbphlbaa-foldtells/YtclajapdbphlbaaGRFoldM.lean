/- HOW FAR the reference's Fold HAS COME. -/
import Derived.Test.YtclajapdbphlbaaGRAfter
namespace Go.Proofs.Ytclajapdbphlbaa
open Go.ChangeShapes Go.WideShapes Go.ChangeAt Go.RowKit

theorem lay_app {w : World} {S : Nat → Prop} {ys : List Value} {m : List Ir} (hm : kIr.lay w S ys m) : ∀ {l : List Ir} {xs : List Value}, kIr.lay w S xs l → kIr.lay w S (xs ++ ys) (l ++ m)
  | [], xs, h => by cases h; exact hm
  | x :: l, xs, h => by
    obtain ⟨cs, zs, rfl, hC, hr⟩ := h
    exact ⟨cs, zs ++ ys, by simp, hC, lay_app hm hr⟩
/-- An instruction of a row that the call owns becomes another one. -/
theorem own_setk {w : World} {base : Nat} {S : Nat → Prop} {g vc k : Nat} {l : List Ir} {z : Ir} {cs' : List Value} (h : kIr.own 36 w S base (.slice (some ⟨g, 0, none⟩) l.length vc) l) (hk : k < l.length) (hC : ∀ w', kIr.C w' S cs' z) (hS : ∀ j, S j → j ≠ g) :
    w.there g (k * 9) 9 ∧ kIr.own 36 (w.setCells g (k * 9) cs') S base (.slice (some ⟨g, 0, none⟩) l.length vc) (l.set k z) := by
  obtain ⟨cs, h1, h2⟩ := h
  rcases h1.2 with ⟨e, _⟩ | ⟨g', cap, cur, e, hb, hg, hn, hm, hs, htk⟩
  · cases e
  have e1 : g = g' ∧ vc = cap := by injection e with e1 e2 e3; injection e1 with e1; injection e1 with e1; exact ⟨e1, e3⟩
  obtain ⟨rfl, rfl⟩ := e1
  have hl9 : cs'.length = 9 := kIr.len (hC w)
  have hn9 : kIr.n = 9 := rfl
  have hcs : cs.length = l.length * 9 := h1.1
  rw [hn9] at hs htk
  have hkn : (k + 1) * 9 ≤ l.length * 9 := Nat.mul_le_mul_right 9 (by omega)
  have hnv : l.length * 9 ≤ vc * 9 := Nat.mul_le_mul_right 9 hn
  have hroom : k * 9 + 9 ≤ cur.size := by rw [hs]; omega
  obtain ⟨cur', q1, q2, q3⟩ := setCells_block cs' (k * 9) hg (by omega)
  have hsplit : l = l.take k ++ (l[k] :: l.drop (k + 1)) := by rw [← List.drop_eq_getElem_cons hk, List.take_append_drop]
  rw [hsplit] at h2
  obtain ⟨c1, c23, e2, hc1, hc23⟩ := lay_split h2
  obtain ⟨c2, c3, e3, hc2, hc3⟩ := hc23
  have hl1 : c1.length = k * 9 := by rw [lay_len hc1, List.length_take]; congr 1; omega
  have hl2 : c2.length = 9 := kIr.len hc2
  have hgo : Goes w (w.setCells g (k * 9) cs') S S := fun j hj _ => ⟨hj, setCells_other (hS j hj) cs' (k * 9) w⟩
  refine ⟨fun j hj => ⟨?_, ?_⟩, c1 ++ (cs' ++ c3), ?_, ?_⟩
  · simp [World.cell?, hg]; omega
  · simp [World.frozen?, hg]
  · refine ⟨?_, .inr ⟨g, vc, cur', by rw [List.length_set], hb, q1, by rw [List.length_set]; exact hn, hm, by rw [q2, hs, hn9], ?_⟩⟩
    · rw [List.length_set, hn9, ← hcs, e2, e3]
      simp only [List.length_append, hl9, hl2]
    · rw [q3, hn9, List.length_set]
      have hcur : cur.toList = cs ++ cur.toList.drop (l.length * 9) := by rw [← htk, List.take_append_drop]
      rw [hcur, e2, e3]
      rw [show k * 9 + cs'.length = c1.length + (c2.length + 0) by rw [hl1, hl2, hl9]]
      rw [List.append_assoc c1, List.take_left' hl1]
      rw [show (c2 ++ c3) ++ List.drop (l.length * 9) cur.toList = c2 ++ (c3 ++ List.drop (l.length * 9) cur.toList) by rw [List.append_assoc]]
      rw [List.drop_append, List.drop_of_length_le (show c1.length ≤ c1.length + (c2.length + 0) by omega), List.nil_append, show c1.length + (c2.length + 0) - c1.length = c2.length by omega, List.drop_left]
      simp only [← List.append_assoc]
      refine List.take_left' ?_
      have : cs.length = c1.length + (c2.length + c3.length) := by rw [e2, e3]; simp
      simp only [List.length_append]
      omega
  · have hset : l.set k z = l.take k ++ (z :: l.drop (k + 1)) := by
      conv => lhs; rw [hsplit]
      rw [List.set_append_right _ _ (by rw [List.length_take]; omega), List.length_take, show k - min k l.length = 0 by omega, List.set_cons_zero]
    rw [hset]
    exact lay_app (show kIr.lay _ S (cs' ++ c3) (z :: l.drop (k + 1)) from ⟨cs', c3, rfl, hC _, kIr.lay_mono hc3 hgo⟩) (kIr.lay_mono hc1 hgo)
/-- Where the loop stands: the first k instructions are folded, of the first kf it is told what is known behind them. -/
structure RefAt (w w6 : World) (x : Co) (g zc k kf : Nat) (vf : Value) (wr : World) : Prop where
  out : kIr.own 36 wr (fun j => j < w.heap.size) w.heap.size (.slice (some ⟨g, 0, none⟩) x.l.length zc) ((foldL x.l).take k ++ x.l.drop k)
  f : kFa.own 58 wr (fun _ => True) w6.heap.size vf (facts x.l kf)
  kept : Kept (fun j => j = g) w6 wr
theorem fa_lay {w w' : World} {S T : Nat → Prop} : ∀ {l : List (Option Nat)} {cs : List Value}, kFa.lay w S cs l → kFa.lay w' T cs l
  | [], _, h => h
  | x :: l, cs, h => by
    obtain ⟨ds, ys, rfl, hC, hr⟩ := h
    exact ⟨ds, ys, rfl, hC, fa_lay hr⟩
theorem mixed_len (l : List Ir) (k : Nat) : ((foldL l).take k ++ l.drop k).length = l.length := by
  rw [List.length_append, List.length_take, List.length_drop, foldL_len]; omega
/-- New blocks change nothing. -/
theorem RefAt.on {w w6 wr w' : World} {x : Co} {g zc k kf : Nat} {vf : Value} (h : RefAt w w6 x g zc k kf vf wr) (hb : Below wr.heap.size wr w') : RefAt w w6 x g zc k kf vf w' := by
  obtain ⟨cs, h1, h2⟩ := h.out
  obtain ⟨fs, f1, f2⟩ := h.f
  exact ⟨⟨cs, own_kept h1 (Below.kept hb (fun _ => False)) (fun _ _ e => e), kIr.lay_mono h2 fun j hj hlt => ⟨hj, hb.block j hlt⟩⟩, ⟨fs, own_kept f1 (Below.kept hb (fun _ => False)) (fun _ _ e => e), fa_lay f2⟩, h.kept.trans (Below.kept hb _)⟩
/-- One more is told. -/
theorem RefAt.push {w w6 wr w' : World} {x : Co} {g zc k kf : Nat} {vf vf' : Value} {fs : List Value} {v : Option Nat} (h : RefAt w w6 x g zc k kf vf wr) (hw : w.heap.size ≤ w6.heap.size) (hg6 : g < w6.heap.size) (hfs : wr.ownsRow w6.heap.size 58 2 vf kf fs ∧ kFa.lay wr (fun _ => True) fs (facts x.l kf)) (hv : v.getD 0 < 4294967296)
    (hn : facts x.l (kf + 1) = facts x.l kf ++ [v]) (O : Obj) (hown : w'.ownsRow w6.heap.size 58 2 vf' (kf + 1) (fs ++ [.bool v.isSome, .int .u32 ((v.getD 0 : Nat) : Int)])) (hgr : (wr.alloc O).grownBy w' vf.ownBlock) : RefAt w w6 x g zc k (kf + 1) vf' w' := by
  have hk : Kept (fun j => vf.ownBlock = some j) wr w' := (Below.kept (bl_alloc (Below.refl wr.heap.size wr) O) _).trans (Kept.of_grown hgr)
  have hfb : ∀ j, vf.ownBlock = some j → w6.heap.size ≤ j := fun j e => (hfs.1.lt j e).1
  obtain ⟨cs, h1, h2⟩ := h.out
  refine ⟨⟨cs, own_kept h1 hk (fun j e m => ?_), kIr.lay_mono h2 fun j hj hlt => ⟨hj, hk.block j hlt fun m => ?_⟩⟩, ⟨fs ++ [.bool v.isSome, .int .u32 ((v.getD 0 : Nat) : Int)], ?_, ?_⟩, ⟨hk.os.trans h.kept.os, hk.tape.trans h.kept.tape, hk.output.trans h.kept.output, Nat.le_trans h.kept.size hk.size, fun i hi hm => (hk.block i (Nat.lt_of_lt_of_le hi h.kept.size) fun m => ?_).trans (h.kept.block i hi hm)⟩⟩
  · have h3 := hfb j m
    have : g = j := Option.some.inj e
    omega
  · have := hfb j m; omega
  · rw [facts_len]; exact hown
  · rw [hn]; exact kFa.lay_snoc ⟨rfl, hv⟩ (fa_lay hfs.2)
  · have := hfb i m; omega
/-- The instruction stays as it is. -/
theorem RefAt.stay {w w6 wr : World} {x : Co} {g zc k kf : Nat} {vf : Value} (h : RefAt w w6 x g zc k kf vf wr) (hk : k < x.l.length) (hx : foldX (knAt (begs x.l) x.l k) x.l[k] = x.l[k]) : RefAt w w6 x g zc (k + 1) kf vf wr := by
  refine ⟨?_, h.f, h.kept⟩
  rw [foldL_take x.l k hk, hx]
  have e : ((foldL x.l).take k ++ x.l.drop k).set k x.l[k] = (foldL x.l).take k ++ x.l.drop k := by
    have hl := foldL_len x.l
    rw [List.set_append_right _ _ (by rw [List.length_take]; omega), List.length_take, show k - min k (foldL x.l).length = 0 by omega, List.drop_eq_getElem_cons hk, List.set_cons_zero]
  rw [e]
  exact h.out
/-- A number takes its place. -/
theorem RefAt.over {w w6 wr : World} {x : Co} {g zc k kf n : Nat} {vf : Value} (h : RefAt w w6 x g zc k kf vf wr) (hk : k < x.l.length) (hwg : w.heap.size ≤ g) (hg6 : g < w6.heap.size) (hn : n < 4294967296) (hx : foldX (knAt (begs x.l) x.l k) x.l[k] = cIr x.l[k].d n) :
    wr.there g (k * 9) 9 ∧ RefAt w w6 x g zc (k + 1) kf vf (wr.setCells g (k * 9) (irCells (cIr x.l[k].d n) none 0)) := by
  have ho := h.out
  rw [← mixed_len x.l k] at ho
  obtain ⟨ht, ho2⟩ := own_setk (cs' := irCells (cIr x.l[k].d n) none 0) (z := cIr x.l[k].d n) ho (k := k) (by rw [mixed_len]; exact hk) (fun w' => ⟨none, 0, rfl, Nat.le_refl _, hn, trivial⟩) (fun j hj => by omega)
  rw [mixed_len] at ho2
  obtain ⟨fs, f1, f2⟩ := h.f
  have hgk := setCells_kept g (irCells (cIr x.l[k].d n) none 0) (k * 9) wr
  refine ⟨ht, ?_, ⟨fs, own_kept f1 hgk (fun j e m => ?_), fa_lay f2⟩, h.kept.trans hgk⟩
  · rw [foldL_take x.l k hk, hx]; exact ho2
  · have := (f1.lt j e).1; omega
theorem irs_lt {w : World} {S : Nat → Prop} {l : List Ir} {a : Option Addr} (h : kIr.row w S a l) : ∀ z ∈ l, z.n < 4294967296 := fun z hz => by
  obtain ⟨k, hk, rfl⟩ := List.getElem_of_mem hz
  obtain ⟨_, _, _, _, _, _, _, _, _, hn, _⟩ := ir_at h k hk
  exact hn
theorem facts_succ {l : List Ir} {k : Nat} (hk : k < l.length) : facts l (k + 1) = facts l k ++ [aft (knAt (begs l) l k) l[k]] := by
  rw [facts, List.getD_eq_getElem?_getD, List.getElem?_eq_getElem hk]; rfl
/-- What the reference does with an instruction is what folding does. -/
theorem aft_stay {K : Kws} {x : Ir} (h : aft K x = none ∨ x.kind < 2 ∨ 4 < x.kind) : foldX K x = x := by
  rcases hm : mayW x with _ | _
  · exact foldX_not K hm
  · have := mayW_kind hm
    rcases h with h | h | h
    · rw [aft_m K hm] at h; exact foldX_none h
    · omega
    · omega
theorem aft_over {K : Kws} {x : Ir} {n : Nat} (h : aft K x = some n) (h2 : 2 ≤ x.kind) (h4 : x.kind ≤ 4) : foldX K x = cIr x.d n := by
  have hm : mayW x = true := mayW_yes (by omega)
  rw [aft_m K hm] at h
  exact foldX_some hm h
end Go.Proofs.Ytclajapdbphlbaa
