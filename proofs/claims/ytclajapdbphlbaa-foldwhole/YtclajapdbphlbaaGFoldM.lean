/- HOW FAR folded HAS COME: its state in memory, and what each end of a round leaves. -/
import Derived.Test.YtclajapdbphlbaaGBlocks
import Derived.Test.YtclajapdbphlbaaGNeed
import Derived.Test.YtclajapdbphlbaaGClone
import Derived.Test.YtclajapdbphlbaaGOp
import Derived.Deep.MidRow
namespace Go.Proofs.Ytclajapdbphlbaa
open Go.ChangeShapes Go.WideShapes Go.ChangeAt Go.RowKit

/-- Where what the told instructions lean on may lie. -/
def Free (w : World) (B : Nat) (v kn : Value) (j : Nat) : Prop := w.heap.size ≤ j ∧ j ≠ B ∧ v.ownBlock ≠ some j ∧ kn ≠ .map (some j)
/-- Ahead of the k-th instruction. -/
structure FoldAt (w : World) (l : List Ir) (B k : Nat) (K : Kws) (o : List Ir) (v kn : Value) (wr : World) : Prop where
  q : o ++ foldF (begs l) k (l.drop k) K = foldL l
  len : o.length = k
  wok : WordOk K
  known : (k = 0 ∧ kn = .map none) ∨ ∃ b n, kn = .map (some b) ∧ n ≤ k ∧ Kno wr b n K ∧ w.heap.size ≤ b ∧ v.ownBlock ≠ some b ∧ b ≠ B
  begins : wr.heap[B]? = some (.cells (bvs (begs l)) 4)
  apart : v.ownBlock ≠ some B
  out : kIr.own 36 wr (Free w B v kn) w.heap.size v o
  below : Below w.heap.size w wr
/-- Within it: the instruction stands in its box p; the row v tells r. -/
structure Mid (w : World) (l : List Ir) (B k : Nat) (K : Kws) (o : List Ir) (x : Ir) (r : List Ir) (v : Value) (b n p : Nat) (y : Option Addr) (c2 : Nat) (wm : World) : Prop where
  q : o ++ foldX K x :: foldF (begs l) (k + 1) (l.drop (k + 1)) (nextK K x) = foldL l
  len : o.length = k
  wok : WordOk K
  nk : n ≤ k
  kno : Kno wm b n K
  bw : w.heap.size ≤ b
  bB : b ≠ B
  vb : v.ownBlock ≠ some b
  begins : wm.heap[B]? = some (.cells (bvs (begs l)) 4)
  apart : v.ownBlock ≠ some B
  out : kIr.own 36 wm (fun j => Free w B v (.map (some b)) j ∧ j ≠ p) w.heap.size v r
  box : wm.heap[p]? = some (irB x y c2)
  pw : w.heap.size ≤ p
  pb : p ≠ b
  pB : p ≠ B
  pv : v.ownBlock ≠ some p
  below : Below w.heap.size w wm

theorem WordOk.none : WordOk kNone := fun r v h => by cases h
theorem WordOk.ahead {K : Kws} (h : WordOk K) (bs : List Bool) (i : Nat) : WordOk (ahead bs i K) := by
  unfold Proofs.Ytclajapdbphlbaa.ahead
  split
  · exact WordOk.none
  · exact h
theorem WordOk.put {K : Kws} (h : WordOk K) (d : Int) {v : Option Nat} (hv : ∀ n, v = some n → n < 4294967296) : WordOk (kPut K d v) := fun r n e => by
  unfold kPut at e
  split at e
  · exact hv n e
  · exact h r n e
theorem worth_lt {K : Kws} (h : WordOk K) {x : Ir} (hm : mayW x = true) {n : Nat} (hn : worth K x = some n) : n < 4294967296 := by
  have hk := mayW_kind hm
  rcases hk with h2 | h3 | h4
  · rw [worth_2 K h2] at hn; exact h _ _ hn
  · rw [worth_3 K h3] at hn
    cases e1 : K x.a with
    | none => rw [e1] at hn; cases hn
    | some p =>
      cases e2 : K x.b with
      | none => rw [e1, e2] at hn; cases hn
      | some q =>
        rw [e1, e2] at hn
        have hn' : (opz x.op (p : Int) (q : Int)).toNat = n := by injection hn
        have hp := h _ _ e1
        have hq := h _ _ e2
        have := opz_lim x.op p q (by omega) (by omega) (by omega) (by omega)
        omega
  · rw [worth_4 K h4] at hn
    cases e1 : K x.a with
    | none => rw [e1] at hn; cases hn
    | some p =>
      rw [e1] at hn
      have hn' : (if p = 0 then K x.c else K x.b) = some n := hn
      split at hn'
      · exact h _ _ hn'
      · exact h _ _ hn'
/-- A row that the call owns, a block of which is not touched. -/
theorem own_keep' {wr w' : World} {v : Value} {o : List Ir} {S T : Nat → Prop} {base : Nat} (h : kIr.own 36 wr S base v o) {M : Nat → Prop} (hk : Kept M wr w') (hv : ∀ g, v.ownBlock = some g → ¬ M g) (hS : ∀ j, S j → j < wr.heap.size → ¬ M j ∧ T j) : kIr.own 36 w' T base v o := by
  obtain ⟨cs, h1, h2⟩ := h
  exact ⟨cs, own_kept h1 hk fun g hg => hv g hg, kIr.lay_mono h2 fun j hj hlt => ⟨(hS j hj hlt).2, hk.block j hlt (hS j hj hlt).1⟩⟩
/-- The round ends with the instruction as it is; the map may have changed. -/
theorem Mid.next {w wm w' : World} {l : List Ir} {B k : Nat} {K : Kws} {o : List Ir} {x : Ir} {v : Value} {b n n' p : Nat} {y : Option Addr} {c2 : Nat} (h : Mid w l B k K o x (o ++ [x]) v b n p y c2 wm) (hx : foldX K x = x) (hk : Kno w' b n' (nextK K x)) (hn : n' ≤ k + 1) (hkp : Kept (fun j => j = b) wm w') (hw : WordOk (nextK K x)) :
    FoldAt w l B (k + 1) (nextK K x) (o ++ [x]) v (.map (some b)) w' := by
  refine ⟨?_, by simp [h.len], hw, .inr ⟨b, n', rfl, hn, hk, h.bw, h.vb, h.bB⟩, ?_, h.apart, own_keep' h.out hkp (fun g hg e => h.vb (by rw [hg, e])) (fun j hj _ => ⟨fun e => hj.1.2.2.2 (by rw [e]), hj.1⟩), ?_⟩
  · rw [List.append_assoc]
    have := h.q
    rw [hx] at this
    exact this
  · rw [hkp.block B (lt_of_some h.begins) (fun e => h.bB e.symm)]; exact h.begins
  · refine Kept.to_below ((Below.kept h.below (fun i => w.heap.size ≤ i)).trans (hkp.mono fun i _ e => ?_)) fun _ hi => hi
    have := h.bw; omega
/-- New blocks change nothing. -/
theorem Mid.on {w wm w' : World} {l : List Ir} {B k : Nat} {K : Kws} {o r : List Ir} {x : Ir} {v : Value} {b n p : Nat} {y : Option Addr} {c2 : Nat} (h : Mid w l B k K o x r v b n p y c2 wm) (hb : Below wm.heap.size wm w') : Mid w l B k K o x r v b n p y c2 w' :=
  ⟨h.q, h.len, h.wok, h.nk, h.kno.keep (hb.block b h.kno.lt), h.bw, h.bB, h.vb, (hb.block B (lt_of_some h.begins)).trans h.begins, h.apart, own_keep' h.out (Below.kept hb (fun _ => False)) (fun _ _ e => e) (fun _ hj _ => ⟨fun e => e, hj⟩), (hb.block p (lt_of_some h.box)).trans h.box, h.pw, h.pb, h.pB, h.pv, bl_then h.below hb⟩
/-- Its arguments become its own. -/
theorem Mid.args {w wm : World} {l : List Ir} {B k : Nat} {K : Kws} {o r : List Ir} {x : Ir} {v : Value} {b n p : Nat} {y y' : Option Addr} {c2 c' : Nat} (h : Mid w l B k K o x r v b n p y c2 wm) : Mid w l B k K o x r v b n p y' c' (wm.setCell ⟨p, 8, none⟩ (.slice y' x.args.length c')) := by
  have hk := Kept.set wm p 8 (.slice y' x.args.length c')
  refine ⟨h.q, h.len, h.wok, h.nk, h.kno.keep (setCell_other (fun e => h.pb e.symm)), h.bw, h.bB, h.vb, (setCell_other (fun e => h.pB e.symm)).trans h.begins, h.apart, own_keep' h.out hk (fun g hg e => h.pv (by rw [hg, e])) (fun j hj _ => ⟨hj.2, hj⟩), ?_, h.pw, h.pb, h.pB, h.pv, bl_set h.below p 8 _ h.pw⟩
  rw [setCell_at h.box]
  rfl
/-- It is appended. -/
theorem Mid.push {w wm w' : World} {l : List Ir} {B k : Nat} {K : Kws} {o : List Ir} {x : Ir} {v v' : Value} {b n p : Nat} {y : Option Addr} {c2 : Nat} {cs : List Value} (h : Mid w l B k K o x o v b n p y c2 wm) (hcs : kIr.lay wm (fun j => Free w B v (.map (some b)) j ∧ j ≠ p) cs o) (hown : w'.ownsRow w.heap.size 36 9 v' (k + 1) (cs ++ irCells x y c2)) (O : Obj) (hg : (wm.alloc O).grownBy w' v.ownBlock) (hv : v'.ownBlock = v.ownBlock ∨ v'.ownBlock = some (wm.alloc O).heap.size)
    (hvb : ∀ g, v.ownBlock = some g → w.heap.size ≤ g) (hC : kIr.C wm (fun j => Free w B v (.map (some b)) j ∧ j ≠ p) (irCells x y c2) x) : Mid w l B k K o x (o ++ [x]) v' b n p y c2 w' := by
  have hb1 := bl_alloc (Below.refl wm.heap.size wm) O
  have hk : Kept (fun j => v.ownBlock = some j) wm w' := (Below.kept hb1 _).trans (Kept.of_grown hg)
  have hsz : wm.heap.size ≤ (wm.alloc O).heap.size := hb1.size
  have hne : ∀ j, j < wm.heap.size → v.ownBlock ≠ some j → v'.ownBlock ≠ some j := fun j hj h1 e => by
    rcases hv with e1 | e1
    · rw [e1] at e; exact h1 e
    · rw [e1] at e; have := Option.some.inj e; omega
  have hgo : Goes wm w' (fun j => Free w B v (.map (some b)) j ∧ j ≠ p) (fun j => Free w B v' (.map (some b)) j ∧ j ≠ p) := fun j hj hlt => ⟨⟨⟨hj.1.1, hj.1.2.1, hne j hlt hj.1.2.2.1, hj.1.2.2.2⟩, hj.2⟩, hk.block j hlt hj.1.2.2.1⟩
  refine ⟨h.q, h.len, h.wok, h.nk, h.kno.keep (hk.block b h.kno.lt h.vb), h.bw, h.bB, hne b h.kno.lt h.vb, (hk.block B (lt_of_some h.begins) h.apart).trans h.begins, hne B (lt_of_some h.begins) h.apart, ⟨cs ++ irCells x y c2, ?_, kIr.lay_snoc (kIr.mono hC hgo) (kIr.lay_mono hcs hgo)⟩, (hk.block p (lt_of_some h.box) h.pv).trans h.box, h.pw, h.pb, h.pB, hne p (lt_of_some h.box) h.pv, ?_⟩
  · rw [show (o ++ [x]).length = k + 1 by simp [h.len]]; exact hown
  · exact Kept.to_below ((Below.kept h.below (fun i => w.heap.size ≤ i)).trans (hk.mono fun i _ e => hvb i e)) fun _ hi => hi
theorem fold_q {l : List Ir} {k : Nat} {K : Kws} {o : List Ir} (hlt : k < l.length) (h : o ++ foldF (begs l) k (l.drop k) K = foldL l) : o ++ foldX (ahead (begs l) k K) l[k] :: foldF (begs l) (k + 1) (l.drop (k + 1)) (nextK (ahead (begs l) k K) l[k]) = foldL l := by
  rw [List.drop_eq_getElem_cons hlt, foldF] at h; exact h
theorem ahead_yes {bs : List Bool} {i : Nat} {K : Kws} (h : bs.getD i false = true) : ahead bs i K = kNone := if_pos h
theorem ahead_no {bs : List Bool} {i : Nat} {K : Kws} (h : bs.getD i false = false) : ahead bs i K = K := if_neg (by rw [h]; decide)
/-- A block begins: nothing is known. -/
theorem FoldAt.fresh {w wr : World} {l : List Ir} {B k : Nat} {K : Kws} {o : List Ir} {v kn : Value} (h : FoldAt w l B k K o v kn wr) (hlt : k < l.length) (hbg : (begs l).getD k false = true) (x : Ir) (hx : l[k] = x) (ga : Option Addr) (gc : Nat) : Mid w l B k kNone o x o v (wr.heap.size + 1) 0 wr.heap.size ga gc ((wr.alloc (irB x ga gc)).alloc (.map #[] 0)) := by
  have hq := fold_q hlt h.q
  rw [ahead_yes hbg, hx] at hq
  have hb2 : Below wr.heap.size wr ((wr.alloc (irB x ga gc)).alloc (.map #[] 0)) := bl_alloc (bl_alloc (Below.refl _ _) _) _
  have hz : (wr.alloc (irB x ga gc)).heap.size = wr.heap.size + 1 := by simp
  have hlv : ∀ g, v.ownBlock = some g → g < wr.heap.size := fun g hg => (kIr.own_lt h.out g hg).2
  have hkm := Kno.made (wr.alloc (irB x ga gc))
  rw [hz] at hkm
  have hB := lt_of_some h.begins
  have hw := h.below.size
  refine ⟨hq, h.len, WordOk.none, Nat.zero_le _, hkm, by omega, by omega, fun e => by have := hlv _ e; omega, (hb2.block B hB).trans h.begins, h.apart, own_keep' h.out (Below.kept hb2 (fun _ => False)) (fun _ _ e => e) (fun j hj hjl => ⟨fun e => e, ⟨hj.1, hj.2.1, hj.2.2.1, fun e => by { have e2 : wr.heap.size + 1 = j := by { injection e with e; exact Option.some.inj e }; omega }⟩, by omega⟩), ?_, hw, by omega, by omega, fun e => by have := hlv _ e; omega, bl_then h.below hb2⟩
  rw [heap_alloc_old _ _ (by simp)]
  exact heap_alloc_new wr _
/-- None begins: what was known still is. -/
theorem FoldAt.stay {w wr : World} {l : List Ir} {B k : Nat} {K : Kws} {o : List Ir} {v kn : Value} (h : FoldAt w l B k K o v kn wr) (hlt : k < l.length) (hbg : (begs l).getD k false = false) (x : Ir) (hx : l[k] = x) (ga : Option Addr) (gc : Nat) : ∃ b n, kn = .map (some b) ∧ Mid w l B k (ahead (begs l) k K) o x o v b n wr.heap.size ga gc (wr.alloc (irB x ga gc)) := by
  have hq := fold_q hlt h.q
  rw [hx] at hq
  rcases h.known with ⟨rfl, _⟩ | ⟨b, n, rfl, hn, hk, hbw, hvb, hbB⟩
  · rw [begs_zero] at hbg; cases hbg
  have hb2 : Below wr.heap.size wr (wr.alloc (irB x ga gc)) := bl_alloc (Below.refl _ _) _
  have hlv : ∀ g, v.ownBlock = some g → g < wr.heap.size := fun g hg => (kIr.own_lt h.out g hg).2
  have hB := lt_of_some h.begins
  have hw := h.below.size
  have hbl := hk.lt
  refine ⟨b, n, rfl, hq, h.len, h.wok.ahead _ _, hn, ?_, hbw, hbB, hvb, (hb2.block B hB).trans h.begins, h.apart, own_keep' h.out (Below.kept hb2 (fun _ => False)) (fun _ _ e => e) (fun j hj hjl => ⟨fun e => e, hj, by omega⟩), heap_alloc_new wr _, hw, by omega, by omega, fun e => by have := hlv _ e; omega, bl_then h.below hb2⟩
  rw [ahead_no hbg]
  exact hk.keep (hb2.block b hbl)
theorem setCells_block {w : World} {b : Nat} : ∀ (vs : List Value) (o : Nat) {cur : Array Value} {e : TypeId} {f : Nat × Nat}, w.heap[b]? = some (.cells cur e f) → o + vs.length ≤ cur.size → ∃ cur' : Array Value, (w.setCells b o vs).heap[b]? = some (.cells cur' e f) ∧ cur'.size = cur.size ∧ cur'.toList = cur.toList.take o ++ vs ++ cur.toList.drop (o + vs.length)
  | [], o, cur, e, f, h, _ => ⟨cur, h, rfl, by simp⟩
  | v :: vs, o, cur, e, f, h, hl => by
    simp only [List.length_cons] at hl
    have ih := setCells_block (w := w.setCell ⟨b, o, none⟩ v) vs (o + 1) (setCell_at h) (by simp; omega)
    obtain ⟨cur', h1, h2, h3⟩ := ih
    refine ⟨cur', h1, by simpa using h2, ?_⟩
    rw [h3]
    have hlt : o < cur.toList.length := by simp; omega
    simp only [Array.toList_setIfInBounds, List.length_cons]
    rw [List.drop_set_of_lt (by omega), show o + 1 + vs.length = o + (vs.length + 1) by omega, List.take_set, List.take_succ_eq_append_getElem hlt]
    rw [List.set_append_right _ _ (by simp; omega)]
    simp only [List.length_take, List.append_assoc, List.cons_append]
    rw [show o - min o cur.toList.length = 0 by omega]
    rfl
theorem setCells_other {b k : Nat} (hk : k ≠ b) : ∀ (vs : List Value) (o : Nat) (w : World), (w.setCells b o vs).heap[k]? = w.heap[k]?
  | [], _, _ => rfl
  | v :: vs, o, w => by rw [World.setCells, setCells_other hk vs]; exact setCell_other hk
theorem setCells_kept (b : Nat) : ∀ (vs : List Value) (o : Nat) (w : World), Kept (fun k => k = b) w (w.setCells b o vs)
  | [], _, w => Kept.refl _ w
  | v :: vs, o, w => by rw [World.setCells]; exact (Kept.set w b o v).trans (setCells_kept b vs (o + 1) _)
theorem lay_len {w : World} {S : Nat → Prop} : ∀ {l : List Ir} {xs : List Value}, kIr.lay w S xs l → xs.length = l.length * 9
  | [], xs, h => by cases h; rfl
  | x :: l, xs, h => by
    obtain ⟨cs, ys, rfl, hC, hr⟩ := h
    have h1 := kIr.len hC
    have h2 := lay_len hr
    have h3 : kIr.n = 9 := rfl
    rw [List.length_append, List.length_cons]; omega
theorem lay_split {w : World} {S : Nat → Prop} {m : List Ir} : ∀ {l : List Ir} {xs : List Value}, kIr.lay w S xs (l ++ m) → ∃ ys zs, xs = ys ++ zs ∧ kIr.lay w S ys l ∧ kIr.lay w S zs m
  | [], xs, h => ⟨[], xs, rfl, rfl, h⟩
  | x :: l, xs, h => by
    obtain ⟨cs, ys, rfl, hC, hr⟩ := h
    obtain ⟨us, vs, rfl, h1, h2⟩ := lay_split hr
    exact ⟨cs ++ us, vs, by simp, ⟨cs, us, rfl, hC, h1⟩, h2⟩
/-- The last of a row that the call owns becomes another one. -/
theorem own_over {w : World} {base : Nat} {S : Nat → Prop} {vx : Option Addr} {vc k : Nat} {o : List Ir} {x z : Ir} {cs' : List Value} (h : kIr.own 36 w S base (.slice vx (k + 1) vc) (o ++ [x])) (ho : o.length = k) (hC : ∀ w', kIr.C w' S cs' z) (hS : ∀ j, S j → (Value.slice vx (k + 1) vc).ownBlock ≠ some j) :
    ∃ g, vx = some ⟨g, 0, none⟩ ∧ w.there g (k * 9) 9 ∧ kIr.own 36 (w.setCells g (k * 9) cs') S base (.slice vx (k + 1) vc) (o ++ [z]) := by
  obtain ⟨cs, h1, h2⟩ := h
  rw [show (o ++ [x]).length = k + 1 by simp [ho]] at h1
  rcases h1.2 with ⟨_, h0⟩ | ⟨g, cap, cur, e, hb, hg, hn, hm, hs, htk⟩
  · omega
  have e1 : vx = some ⟨g, 0, none⟩ ∧ vc = cap := by injection e with e1 e2 e3; exact ⟨e1, e3⟩
  obtain ⟨rfl, rfl⟩ := e1
  have hl9 : cs'.length = 9 := kIr.len (hC w)
  have hcs : cs.length = (k + 1) * 9 := h1.1
  have hn9 : kIr.n = 9 := rfl
  rw [hn9] at hs htk
  have hroom : k * 9 + 9 ≤ cur.size := by rw [hs]; have := Nat.mul_le_mul_right 9 hn; omega
  obtain ⟨cur', q1, q2, q3⟩ := setCells_block cs' (k * 9) hg (by omega)
  refine ⟨g, rfl, fun j hj => ⟨?_, ?_⟩, cs.take (k * 9) ++ cs', ?_, ?_⟩
  · simp [World.cell?, hg]; omega
  · simp [World.frozen?, hg]
  · rw [show (o ++ [z]).length = k + 1 by simp [ho]]
    refine ⟨by simp [hcs, hl9, hn9]; omega, .inr ⟨g, vc, cur', rfl, hb, q1, hn, hm, by rw [q2, hs, hn9], ?_⟩⟩
    rw [q3, hn9, List.append_assoc, List.take_append, List.take_append, ← htk]
    simp only [List.length_take, Array.length_toList, List.take_take]
    rw [show min (k * 9) cur.size = k * 9 by omega, show (k + 1) * 9 - k * 9 = 9 by omega, List.take_of_length_le (show cs'.length ≤ 9 by omega), show 9 - cs'.length = 0 by omega, List.take_zero, List.append_nil, show min ((k + 1) * 9) (k * 9) = k * 9 by omega, show min (k * 9) ((k + 1) * 9) = k * 9 by omega]
  · obtain ⟨xs, ys, e2, hx, hy⟩ := lay_split h2
    have hxl : xs.length = k * 9 := by rw [lay_len hx, ho]
    rw [e2, List.take_left' hxl]
    exact kIr.lay_snoc (hC _) (kIr.lay_mono hx fun j hj hlt => ⟨hj, setCells_other (fun e => hS j hj (by rw [e]; rfl)) cs' (k * 9) w⟩)
/-- The round ends with a number in its place. -/
theorem Mid.over {w wm w1 : World} {l : List Ir} {B k : Nat} {K : Kws} {o : List Ir} {x : Ir} {vx : Option Addr} {vc : Nat} {b n n' p m : Nat} {y : Option Addr} {c2 : Nat} (h : Mid w l B k K o x (o ++ [x]) (.slice vx (k + 1) vc) b n p y c2 wm) (hm : mayW x = true) (hv : worth K x = some m) (hk : Kno w1 b n' (kPut K x.d (some m))) (hn : n' ≤ k + 1) (hkp : Kept (fun j => j = b) wm w1) :
    ∃ g, vx = some ⟨g, 0, none⟩ ∧ w1.there g (k * 9) 9 ∧ FoldAt w l B (k + 1) (nextK K x) (o ++ [cIr x.d m]) (.slice vx (k + 1) vc) (.map (some b)) (w1.setCells g (k * 9) (irCells (cIr x.d m) none 0)) := by
  have hm1 := worth_lt h.wok hm hv
  have hnx : nextK K x = kPut K x.d (some m) := by rw [nextK_may K hm, hv]
  have hout := own_keep' (T := fun j => Free w B (.slice vx (k + 1) vc) (.map (some b)) j ∧ j ≠ p) h.out hkp (fun g hg e => h.vb (by rw [hg, e])) (fun j hj _ => ⟨fun e => hj.1.2.2.2 (by rw [e]), hj⟩)
  obtain ⟨g, rfl, ht, ho⟩ := own_over (cs' := irCells (cIr x.d m) none 0) (z := cIr x.d m) hout h.len (fun w' => ⟨none, 0, rfl, Nat.le_refl _, hm1, trivial⟩) (fun j hj => hj.1.2.2.1)
  have hgk := setCells_kept g (irCells (cIr x.d m) none 0) (k * 9) w1
  have hgw : w.heap.size ≤ g := (kIr.own_lt h.out g rfl).1
  refine ⟨g, rfl, ht, ?_, by simp [h.len], by rw [hnx]; exact h.wok.put _ (fun n e => by injection e with e; omega), .inr ⟨b, n', rfl, hn, ?_, h.bw, h.vb, h.bB⟩, ?_, h.apart, own_keep' ho (Kept.refl (fun _ => False) _) (fun _ _ e => e) (fun j hj _ => ⟨fun e => e, hj.1⟩), ?_⟩
  · have hq := h.q
    rw [foldX_some hm hv] at hq
    rw [List.append_assoc]
    exact hq
  · rw [hnx]
    exact hk.keep (hgk.block b hk.lt (fun e => h.vb (by rw [e]; rfl)))
  · have hB1 := hkp.block B (lt_of_some h.begins) (fun e => h.bB e.symm)
    have hB2 : w1.heap[B]? = some (.cells (bvs (begs l)) 4) := hB1.trans h.begins
    exact (hgk.block B (lt_of_some hB2) (fun e => h.apart (by rw [e]; rfl))).trans hB2
  · refine Kept.to_below (((Below.kept h.below (fun i => w.heap.size ≤ i)).trans (hkp.mono fun i _ e => ?_)).trans (hgk.mono fun i _ e => ?_)) fun _ hi => hi
    · have := h.bw; omega
    · omega
end Go.Proofs.Ytclajapdbphlbaa
