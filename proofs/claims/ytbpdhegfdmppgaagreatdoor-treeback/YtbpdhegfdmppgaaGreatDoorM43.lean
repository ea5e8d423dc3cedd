/- Texts of this proof, put together: Print, Print2, Print3, Print4. -/
import Derived.Test.YtbpdhegfdmppgaaGreatDoorM42
import Derived.Test.YtbpdhegfdmppgaaGreatDoorM9
import Derived.Test.YtbpdhegfdmppgaaGreatDoorM3
import Derived.Deep.RegionHeld3
import Derived.Deep.RegionLaw
import Derived.Deep.DrawnRows
import Derived.Laws.BytesString

/- CONTRACTS of sexp.appendNode, appendNodes, Print. -/
namespace Go.Proofs.YtbpdhegfdmppgaaGreatDoor
open Go.ChangeShapes Go.WideShapes Go.ChangeAt Go.RowKit

mutual
def pN (deep : Nat) : Nd → Option (List UInt8)
  | .mk false wd ks _ => if ks.isEmpty = true ∧ wordB wd = true then some wd else none
  | .mk true wd ks _ => if wd = [] ∧ deep < 24 then (match pGo 32 (deep + 1) true ks with | some t => some (40 :: (t ++ [41])) | none => none) else none
def pGo (sep : UInt8) (deep : Nat) (first : Bool) : List Nd → Option (List UInt8)
  | [] => some []
  | x :: l => match pN deep x with
    | none => none
    | some a => match pGo sep deep false l with
      | none => none
      | some b => some ((if first then [] else [sep]) ++ (a ++ b))
end
mutual
def Nd.wt : Nd → Nat
  | .mk _ wd ks _ => 3 + wd.length + wtL ks
def wtL : List Nd → Nat
  | [] => 0
  | x :: l => Nd.wt x + wtL l
end

def TextOwn (w : World) (base : Nat) (v : Value) (t : List UInt8) : Prop := w.ownsRow base 5 1 v t.length (byteCells (bs t))

theorem byteCells_bs (l : List UInt8) : byteCells (bs l) = l.map fun b => Value.int .u8 b.toNat := by unfold byteCells; rw [bs_list]
theorem byteCells_app (l m : List UInt8) : byteCells (bs (l ++ m)) = byteCells (bs l) ++ byteCells (bs m) := by simp only [byteCells_bs, List.map_append]

/-- Where a text that grew lies: where it lay, or in a block that is new. -/
def Moved (w : World) (u v : Value) : Prop := ∀ g, v.ownBlock = some g → u.ownBlock = some g ∨ w.heap.size ≤ g
/-- All but a text's own block is as it was. -/
def KeptT (w : World) (u : Value) (w' : World) : Prop := Kept (fun k => u.ownBlock = some k) w w'
theorem KeptT.trans {w w1 w2 : World} {u v : Value} (h : KeptT w u w1) (hm : Moved w u v) (k : KeptT w1 v w2) : KeptT w u w2 :=
  ⟨k.os.trans h.os, k.tape.trans h.tape, k.output.trans h.output, Nat.le_trans h.size k.size, fun i hi hx => (k.block i (Nat.lt_of_lt_of_le hi h.size) fun e => (hm i e).elim hx fun x => by omega).trans (h.block i hi hx)⟩
theorem Moved.trans {w w1 : World} {u v x : Value} (h : Moved w u v) (hs : w.heap.size ≤ w1.heap.size) (k : Moved w1 v x) : Moved w u x := fun g hg => (k g hg).elim (fun e => h g e) fun e => .inr (by omega)
theorem Moved.refl (w : World) (u : Value) : Moved w u u := fun _ hg => .inl hg
theorem KeptT.of_below {w w' : World} (u : Value) (h : Below w.heap.size w w') : KeptT w u w' := Below.kept h _
theorem KeptT.same {w w1 w2 : World} {u : Value} (h : KeptT w u w1) (k : KeptT w1 u w2) : KeptT w u w2 := h.trans (Moved.refl w u) k
theorem KeptT.below {w w' : World} {u : Value} {base : Nat} (h : KeptT w u w') (hb : base ≤ w.heap.size) (hu : ∀ g, u.ownBlock = some g → base ≤ g) : Below base w w' := Kept.below h hb hu

/-- What appendNodes and appendNode leave. -/
def OutOf (base : Nat) (w : World) (tv : Value) (t : List UInt8) (o : Option (List UInt8)) (nil : Bool) (e : Ending) (w' : World) : Prop :=
  KeptT w tv w' ∧ ((o = none ∧ ∃ v, e = .returned (.tuple #[v, .bool false]) ∧ (nil = true → v = .slice none 0 0)) ∨ ∃ u v, o = some u ∧ e = .returned (.tuple #[v, .bool true]) ∧ TextOwn w' base v (t ++ u) ∧ Moved w tv v)

theorem TextOwn.below {w w' : World} {base B : Nat} {v : Value} {t : List UInt8} (h : TextOwn w base v t) (hb : Below B w w') (hB : ∀ g, v.ownBlock = some g → g < B) : TextOwn w' base v t := by
  refine ⟨h.1, ?_⟩
  rcases h.2 with h0 | ⟨g, cap, cur, rfl, q, hg, rest⟩
  · exact .inl h0
  · exact .inr ⟨g, cap, cur, rfl, q, by rw [hb.block g (hB g rfl)]; exact hg, rest⟩
theorem TextOwn.lt {w : World} {base : Nat} {v : Value} {t : List UInt8} (h : TextOwn w base v t) : ∀ g, v.ownBlock = some g → base ≤ g ∧ g < w.heap.size := World.ownsRow.lt h

theorem moved_of {w W : World} {u v : Value} (h : v.ownBlock = u.ownBlock ∨ v.ownBlock = some W.heap.size) (hs : w.heap.size ≤ W.heap.size) : Moved w u v := fun g hg => by
  rcases h with h | h
  · exact .inl (by rw [← h]; exact hg)
  · rw [h] at hg; cases hg; exact .inr hs

theorem word_bs (wd : List UInt8) (w : World) : Calls Tryz.prog 24 #[.string (bs wd)] w fun e w' => e = .returned (.bool (wordB wd)) ∧ Below w.heap.size w w' := by
  have := word_any (bs wd) w
  rw [bs_list] at this
  exact this

theorem text_snoc {w : World} {base : Nat} {y : Option Addr} {c : Nat} {t wd : List UInt8} (h : w.ownsRow base 5 1 (.slice y (t.length + (bs wd).size) c) (t.length + (bs wd).size) (byteCells (bs t) ++ byteCells (bs wd))) : TextOwn w base (.slice y (t.length + (bs wd).size) c) (t ++ wd) := by
  unfold TextOwn
  rw [byteCells_app, List.length_append, ← bs_size wd]
  exact h

attribute [local go_sem ↓] Go.wp_at_zero Go.wp_at_succ

set_option maxRecDepth 100000 in
set_option maxHeartbeats 3200000 in
/-- A node that is no list. -/
theorem node_word (base : Nat) (w : World) (tv : Value) (t : List UInt8) (wd : List UInt8) (ks : List Nd) (p : Int) (a : Option Addr) (c deep : Nat) (ht : TextOwn w base tv t) (hbase : base ≤ w.heap.size) (hlen : t.length + wd.length ≤ 1000000000) (hks : ks.length ≤ 1000000000) :
    Calls Tryz.prog 91 #[tv, .agg #[.bool false, .string (bs wd), .slice a ks.length c, .int .i64 p], .int .i64 deep] w (OutOf base w tv t (pN deep (.mk false wd ks p)) false) := by
  have hB : Below w.heap.size w (w.alloc (Obj.cells #[.bool false, .string (bs wd), .slice a ks.length c, .int .i64 p] 66)) := (Below.refl _ _).alloc (Nat.le_refl _) _
  have hbox := heap_alloc_new w (Obj.cells #[.bool false, .string (bs wd), .slice a ks.length c, .int .i64 p] 66)
  have hlt := ht.lt
  have hWs : Hid ((w.alloc (Obj.cells #[.bool false, .string (bs wd), .slice a ks.length c, .int .i64 p] 66)).heap.size = w.heap.size + 1) := by simp [Hid]
  have hbs : (bs wd).size = wd.length := bs_size wd
  have HBs : Hid ((bs wd).size = wd.length) := hbs
  clear hbs
  by_cases h0 : ks.length = 0
  · have hk0 : ks = [] := List.eq_nil_of_length_eq_zero h0
    subst hk0
    have HP : Hid (pN deep (.mk false wd [] p) = if wordB wd = true then some wd else none) := by
      show _ = _
      simp only [pN]
      simp
    rw [HP.out]
    clear HP h0
    simp only [List.length_nil] at *
    rcases hwb : wordB wd with _ | _
    all_goals
      go_enter Tryz.func91, Tryz.ntmps91
      go_wp2_with fail
      generalize (w.alloc (Obj.cells #[Value.bool false, Value.string (bs wd), Value.slice a 0 c, Value.int IntKind.i64 p] 66)) = W at hB hbox hWs ⊢
      obtain ⟨b0, b1, b2, b3⟩ := cells4 hbox
      have htW : TextOwn W base tv t := ht.below hB fun g hg => (hlt g hg).2
      have hne : tv.ownBlock ≠ some w.heap.size := fun e => by have := (hlt _ e).2; omega
      first | (go_region_held3 (fun w' => w'.cell? ⟨w.heap.size, 1, none⟩ = some (.string (bs wd)) ∧ w'.cell? ⟨w.heap.size, 2, none⟩ = some (.slice a 0 c)) (first | go_keep | (go_split_ands; exact ⟨(hgrow.cell_far _ (by have := hWs.out; simp; omega) hne.symm).trans (by assumption), (hgrow.cell_far _ (by have := hWs.out; simp; omega) hne.symm).trans (by assumption)⟩) | (go_split_ands; exact ⟨(hgrow.cell_far _ (by have := hWs.out; have := hb2.size; simp at *; omega) hne.symm).trans (by assumption), (hgrow.cell_far _ (by have := hWs.out; have := hb2.size; simp at *; omega) hne.symm).trans (by assumption)⟩) | (go_split_ands; exact ⟨(hb2.cell (by have := hWs.out; simp; omega)).trans (by assumption), (hb2.cell (by have := hWs.out; simp; omega)).trans (by assumption)⟩) | (go_split_ands; exact ⟨(hb2.cell (by have := hWs.out; have := hgrow.size; simp at *; omega)).trans (by assumption), (hb2.cell (by have := hWs.out; have := hgrow.size; simp at *; omega)).trans (by assumption)⟩)) (first | (refine step_append_str rfl _ _ (by rfl) base tv t.length _ (by rfl) (World.ownsRow.drew htW) (bs wd) (by rfl) (by have := HBs.out; omega) (by have := hWs.out; simp; omega) ?_; intro y cy w1 hown1 hgrow hat) | (refine step_append_str rfl _ _ (by rfl) base tv t.length _ (by rfl) ht2 (bs wd) (by rfl) (by have := HBs.out; omega) (by have := hWs.out; have := hb2.size; simp at this; omega) ?_; intro y cy w1 hown1 hgrow hat) | (go_at_call 24; refine (word_bs wd _).mono ?_; rintro e w2 ⟨rfl, hb2⟩; (try have ht2 : TextOwn w2 base tv t := htW.below (B := W.heap.size) hb2 (fun g hg => (htW.lt g hg).2))))) | fail
      go_wp2_with fail
      go_ret2
      have hk1 : KeptT w tv w1 := (KeptT.of_below tv hB.drew).same (Kept.of_grown hgrow)
      have hbb : KeptT w tv w2 := hk1.same (KeptT.of_below tv hb2)
      have htx : TextOwn w2 base (.slice y (t.length + (bs wd).size) cy) (t ++ wd) := (text_snoc hown1).below hb2 fun g hg => ((text_snoc hown1).lt g hg).2
      first
      | exact ⟨hbb, .inl ⟨rfl, _, rfl, fun h => by cases h⟩⟩
      | exact ⟨hbb, .inr ⟨wd, _, rfl, rfl, htx, moved_of (W := W.drew) hat hB.size⟩⟩
  · have hz : ((ks.length : Int) == 0) = false := by rw [beq_eq_false_iff_ne]; omega
    have HP : Hid (pN deep (.mk false wd ks p) = none) := by
      show _ = _
      simp only [pN]
      rw [if_neg]
      rintro ⟨h, _⟩
      exact h0 (by simpa using h)
    rw [HP.out]
    clear HP
    go_enter Tryz.func91, Tryz.ntmps91
    go_wp2_with fail
    generalize (w.alloc (Obj.cells #[Value.bool false, Value.string (bs wd), Value.slice a ks.length c, Value.int IntKind.i64 p] 66)) = W at hB hbox hWs ⊢
    obtain ⟨b0, b1, b2, b3⟩ := cells4 hbox
    have htW : TextOwn W base tv t := ht.below hB fun g hg => (hlt g hg).2
    have hne : tv.ownBlock ≠ some w.heap.size := fun e => by have := (hlt _ e).2; omega
    first | (go_region_law ((refine step_append_str rfl _ _ (by rfl) base tv t.length _ (by rfl) (World.ownsRow.drew htW) (bs wd) (by rfl) (by have := HBs.out; omega) (by have := hWs.out; simp; omega) ?_; intro y cy w1 hown1 hgrow hat; have e1 : w1.cell? ⟨w.heap.size, 1, none⟩ = some (.string (bs wd)) := (hgrow.cell_far _ (by have := hWs.out; simp; omega) hne.symm).trans b1; have e2 : w1.cell? ⟨w.heap.size, 2, none⟩ = some (.slice a ks.length c) := (hgrow.cell_far _ (by have := hWs.out; simp; omega) hne.symm).trans b2))) | fail
    all_goals
      go_wp2_with fail
      go_ret2
      exact ⟨(KeptT.of_below tv hB.drew).same (Kept.of_grown hgrow), .inl ⟨rfl, _, rfl, fun h => by cases h⟩⟩

theorem OutOf.fails {base : Nat} {w : World} {tv : Value} {t : List UInt8} {e : Ending} {w' : World} (h : OutOf base w tv t none true e w') : e = .returned (.tuple #[.slice none 0 0, .bool false]) ∧ KeptT w tv w' := by
  obtain ⟨hb, ⟨_, v, rfl, hv⟩ | ⟨u, v, hu, _⟩⟩ := h
  · rw [hv rfl]; exact ⟨rfl, hb⟩
  · cases hu
theorem OutOf.tells {base : Nat} {w : World} {tv : Value} {t u : List UInt8} {nl : Bool} {e : Ending} {w' : World} (h : OutOf base w tv t (some u) nl e w') : ∃ v, e = .returned (.tuple #[v, .bool true]) ∧ KeptT w tv w' ∧ TextOwn w' base v (t ++ u) ∧ Moved w tv v := by
  obtain ⟨hb, ⟨hu, _⟩ | ⟨u', v, hu, rfl, ht, hm⟩⟩ := h
  · cases hu
  · cases hu; exact ⟨v, rfl, hb, ht, hm⟩
theorem OutOf.fails' {base : Nat} {w : World} {tv : Value} {t : List UInt8} {nl : Bool} {e : Ending} {w' : World} (h : OutOf base w tv t none nl e w') : ∃ v, e = .returned (.tuple #[v, .bool false]) ∧ KeptT w tv w' := by
  obtain ⟨hb, ⟨_, v, rfl, hv⟩ | ⟨u, v, hu, _⟩⟩ := h
  · exact ⟨v, rfl, hb⟩
  · cases hu

mutual
theorem print_len (deep : Nat) : ∀ (x : Nd) (u : List UInt8), pN deep x = some u → u.length + 1 ≤ Nd.wt x
  | .mk false wd ks p, u, h => by
    simp only [pN] at h
    split at h
    · cases h; simp only [Nd.wt]; omega
    · cases h
  | .mk true wd ks p, u, h => by
    simp only [pN] at h
    split at h
    · rcases hg : pGo 32 (deep + 1) true ks with _ | v
      · rw [hg] at h; cases h
      · rw [hg] at h
        have := print_lenL 32 (deep + 1) true ks v hg
        cases h
        simp only [Nd.wt, List.length_cons, List.length_append, List.length_nil]
        omega
    · cases h
theorem print_lenL (sep : UInt8) (deep : Nat) (f : Bool) : ∀ (l : List Nd) (u : List UInt8), pGo sep deep f l = some u → u.length ≤ wtL l
  | [], u, h => by simp only [pGo] at h; cases h; exact Nat.zero_le _
  | x :: l, u, h => by
    simp only [pGo] at h
    rcases hx : pN deep x with _ | a
    · rw [hx] at h; cases h
    · rcases hl : pGo sep deep false l with _ | b
      · rw [hx, hl] at h; cases h
      · rw [hx, hl] at h
        have h1 := print_len deep x a hx
        have h2 := print_lenL sep deep false l b hl
        cases h
        simp only [wtL, List.length_append]
        split <;> simp only [List.length_nil, List.length_singleton] <;> omega
end
theorem print_len_of {sep : UInt8} {deep : Nat} {f : Bool} {l : List Nd} {u : List UInt8} (h : pGo sep deep f l = some u) : u.length ≤ wtL l := print_lenL sep deep f l u h

/-- The contract of appendNodes, for nodes of a size. -/
def NodesOut (n : Nat) : Prop := ∀ (base : Nat) (w : World) (tv : Value) (t : List UInt8) (l : List Nd) (a : Option Addr) (c deep : Nat) (sep : UInt8), sizeL l ≤ n → TextOwn w base tv t → base ≤ w.heap.size → t.length + wtL l ≤ 1000000000 → deep ≤ 24 →
  Row (fun b => b < base) w a l → Calls Tryz.prog 46 #[tv, .slice a l.length c, .int .u8 sep.toNat, .int .i64 deep] w (OutOf base w tv t (pGo sep deep true l) true)

theorem one_byte (c : UInt8) : byteCells (bs [c]) = [.int .u8 c.toNat] := by rw [byteCells_bs]; rfl

theorem text_one {w : World} {base : Nat} {v : Value} {n : Nat} {t : List UInt8} {c : UInt8} (hn : n = t.length + 1) (h : w.ownsRow base 5 1 v n (byteCells (bs t) ++ [.int .u8 c.toNat])) : TextOwn w base v (t ++ [c]) := by
  unfold TextOwn
  rw [byteCells_app, one_byte, List.length_append, List.length_singleton, ← hn]
  exact h

end Go.Proofs.YtbpdhegfdmppgaaGreatDoor

/- CONTRACTS of sexp.appendNode at a list, appendNodes, Print. -/
namespace Go.Proofs.YtbpdhegfdmppgaaGreatDoor
open Go.ChangeShapes Go.WideShapes Go.ChangeAt Go.RowKit

attribute [local go_sem ↓] Go.wp_at_zero Go.wp_at_succ

theorem kept_grow {w2 w3 : World} {v : Value} {o : Obj} (h : (w2.alloc o).grownBy w3 v.ownBlock) : KeptT w2 v w3 := (Kept.alloc w2 o _).trans (Kept.of_grown h)
theorem kept_grow' {w2 w3 : World} {v : Value} {o : Obj} (h : (w2.alloc o).drew.grownBy w3 v.ownBlock) : KeptT w2 v w3 := ((Kept.alloc w2 o _).drew).trans (Kept.of_grown h)
theorem moved_lies {w W : World} {v : Value} {g n cap : Nat} (h : v.ownBlock = some g ∨ g = W.heap.size + 1) (hs : w.heap.size ≤ W.heap.size) : Moved w v (.slice (some ⟨g, 0, none⟩) n cap) := fun k hk => by
  simp only [Value.ownBlock, Option.some.injEq] at hk
  subst hk
  rcases h with h | h
  · exact .inl h
  · exact .inr (by omega)
theorem kept_none {w w' : World} {n c : Nat} (u : Value) (h : KeptT w (.slice none n c) w') : KeptT w u w' := Kept.mono h fun k _ hk => by simp [Value.ownBlock] at hk
theorem text_form {w : World} {base : Nat} {v : Value} {t : List UInt8} (h : TextOwn w base v t) : ∃ x c L, Hid (L = t.length) ∧ v = .slice x L c ∧ w.ownsRow base 5 1 (.slice x L c) L (byteCells (bs t)) := by
  have h' : w.ownsRow base 5 1 v t.length (byteCells (bs t)) := h
  rcases h.2 with ⟨rfl, h0⟩ | ⟨g, cap, cur, rfl, _⟩
  · exact ⟨none, 0, 0, h0.symm, rfl, by rw [h0] at h'; exact h'⟩
  · exact ⟨_, _, _, rfl, rfl, h'⟩

set_option maxRecDepth 100000 in
set_option maxHeartbeats 3200000 in
/-- A node that is a list. -/
theorem node_list (n base : Nat) (w : World) (tv : Value) (t : List UInt8) (wd : List UInt8) (ks : List Nd) (p : Int) (a : Option Addr) (c deep : Nat) (ih : NodesOut n) (hn : sizeL ks ≤ n) (ht : TextOwn w base tv t) (hbase : base ≤ w.heap.size)
    (hlen : t.length + (wtL ks + 2) ≤ 1000000000) (hd : deep ≤ 24) (hrow : Row (fun b => b < base) w a ks) :
    Calls Tryz.prog 91 #[tv, .agg #[.bool true, .string (bs wd), .slice a ks.length c, .int .i64 p], .int .i64 deep] w (OutOf base w tv t (pN deep (.mk true wd ks p)) false) := by
  obtain ⟨i0, hi0, hz0, hz1, hz2⟩ := info_parts info5s
  have hB : Below w.heap.size w (w.alloc (Obj.cells #[.bool true, .string (bs wd), .slice a ks.length c, .int .i64 p] 66)) := (Below.refl _ _).alloc (Nat.le_refl _) _
  have hbox := heap_alloc_new w (Obj.cells #[.bool true, .string (bs wd), .slice a ks.length c, .int .i64 p] 66)
  have hlt := ht.lt
  have hWs : Hid ((w.alloc (Obj.cells #[.bool true, .string (bs wd), .slice a ks.length c, .int .i64 p] 66)).heap.size = w.heap.size + 1) := by simp [Hid]
  by_cases hw : wd = []
  · subst hw
    by_cases hd24 : deep < 24
    · have hwr : IntKind.i64.wrap ((deep : Int) + 1) = (deep : Int) + 1 := by rw [IntKind.wrap_i64]; omega
      have hdd : ¬ (24 : Int) ≤ (deep : Int) := by omega
      have hbs0 : (bs []).toList = [] := by rw [ByteArray.toList_eq]; rfl
      have hc : ∀ (w1 : World) (v : Value), TextOwn w1 base v (t ++ [40]) → base ≤ w1.heap.size → Row (fun b => b < base) w1 a ks → Calls Tryz.prog 46 #[v, .slice a ks.length c, .int .u8 32, .int .i64 ((deep : Int) + 1)] w1 (OutOf base w1 v (t ++ [40]) (pGo 32 (deep + 1) true ks) true) := fun w1 v h1 h2 h3 => by
        have h := ih base w1 v (t ++ [40]) ks a c (deep + 1) 32 hn h1 h2 (by simp; omega) (by omega) h3
        rw [show ((deep + 1 : Nat) : Int) = (deep : Int) + 1 by omega] at h
        exact h
      clear ih hd
      rcases hpg : pGo 32 (deep + 1) true ks with _ | u
      · have HP' : Hid (pN deep (.mk true [] ks p) = none) := by show _ = _; simp only [pN]; rw [if_pos ⟨trivial, hd24⟩, hpg]
        rw [hpg] at hc
        rw [HP'.out]
        clear HP' hpg
        go_enter Tryz.func91, Tryz.ntmps91
        go_wp2_with fail
        generalize (w.alloc (Obj.cells #[Value.bool true, Value.string (bs []), Value.slice a ks.length c, Value.int IntKind.i64 p] 66)) = W at hB hbox hWs ⊢
        obtain ⟨b0, b1, b2, b3⟩ := cells4 hbox
        have htW : TextOwn W base tv t := ht.below hB fun g hg => (hlt g hg).2
        have hne : tv.ownBlock ≠ some w.heap.size := fun e => by have := (hlt _ e).2; omega
        have f2 : ∀ c' t', (W.alloc (.cells c' t')).cell? ⟨w.heap.size, 2, none⟩ = some (.slice a ks.length c) := fun c' t' => alloc_cell _ b2
        have hrb : ∀ w1, (W.alloc (.cells #[.int .u8 40] 5)).drew.grownBy w1 tv.ownBlock → ∀ b, b < base → w1.heap[b]? = w.heap[b]? := fun w1 hg b hb => by
          have := hWs.out
          rw [hg.block b (by simp; omega) fun e => by have := (hlt b e.symm).1; omega, show (W.alloc (.cells #[.int .u8 40] 5)).drew.heap[b]? = (W.alloc (.cells #[.int .u8 40] 5)).heap[b]? from rfl, heap_alloc_old W _ (by omega)]
          exact hB.block b (by omega)
        go_region_held3 (fun w' => w'.cell? ⟨w.heap.size, 2, none⟩ = some (.slice a ks.length c)) (first | go_keep | (exact (hgrow.cell_far _ (by have := hWs.out; simp; omega) hne.symm).trans (f2 _ _)) | (exact (World.cell?_of_block (hb2.block w.heap.size (by have := hWs.out; have := hgrow.size; simp at *; omega) hne1)).trans (by assumption))) (first | (refine step_append_lies _ (by rfl) _ _ _ (by rfl) base 5 i0 _ 1 1 Tryz.underlying84 hi0 hz0 hz1 hz2 rfl (by omega) tv t.length _ (by rfl) ((World.ownsRow.alloc htW _).drew) ⟨W.heap.size, 0, none⟩ 1 1 [.int .u8 40] (by rfl) (by rfl) (World.news_of_block (cs := #[.int .u8 40]) (t := 5) (fr := (0, 0)) (heap_alloc_new W _)) (by simp [Value.oneCell']) (by omega) (by unfold maxLen; omega) (by omega) (by have := hWs.out; simp; omega) (W.heap.size + 1) (by simp) ?_; intro g cap w1 hown1 hgrow hat hlt1; have hne1 : (Value.slice (some ⟨g, 0, none⟩) (t.length + 1) cap).ownBlock ≠ some w.heap.size := (by intro e; simp only [Value.ownBlock, Option.some.injEq] at e; rcases hat with h | h; exact hne (by rw [h, e]); have := hWs.out; omega)) | (go_at_call 46; refine (hc w1 _ (text_one (c := 40) rfl hown1) (by have := hgrow.size; have := hWs.out; simp at *; omega) (hrow.mono fun b hb hl => ⟨hb, hrb w1 hgrow b hb⟩)).mono ?_; rintro e w2 hout; obtain ⟨rfl, hb2⟩ := hout.fails))
        have hk1 : KeptT w tv w1 := (KeptT.of_below tv hB).same (kept_grow' hgrow)
        have hm1 : Moved w tv (.slice (some ⟨g, 0, none⟩) (t.length + 1) cap) := moved_lies hat hB.size
        have hs2 : base ≤ w2.heap.size := by have := hk1.size; have := hb2.size; omega
        go_wp2_with (at_builtin; refine wpList_append_lies _ rfl _ _ 84 rfl base 5 i0 _ 1 1 Tryz.underlying84 hi0 hz0 hz1 hz2 rfl (by omega) (.slice none 0 0) 0 _ rfl (World.ownsRow_nil _ base 5 1) ⟨w2.heap.size, 0, none⟩ 1 1 [.int .u8 41] rfl rfl (World.news_of_block (cs := #[.int .u8 41]) (t := 5) (fr := (0, 0)) (heap_alloc_new w2 _)) (by simp [Value.oneCell']) (by omega) (by unfold maxLen; omega) (by omega) (by have := hs2; simp; omega) (w2.heap.size + 1) (by simp) ?_; intro g3 cap3 w3 hown3 hgrow3 hat3 hlt3)
        go_ret2
        exact ⟨(hk1.trans hm1 hb2).same (kept_none tv (kept_grow hgrow3)), .inl ⟨rfl, _, rfl, fun h => by cases h⟩⟩
      · have HP' : Hid (pN deep (.mk true [] ks p) = some (40 :: (u ++ [41]))) := by show _ = _; simp only [pN]; rw [if_pos ⟨trivial, hd24⟩, hpg]
        rw [hpg] at hc
        have hlu : u.length ≤ wtL ks := print_len_of hpg
        rw [HP'.out]
        clear HP' hpg
        go_enter Tryz.func91, Tryz.ntmps91
        go_wp2_with fail
        generalize (w.alloc (Obj.cells #[Value.bool true, Value.string (bs []), Value.slice a ks.length c, Value.int IntKind.i64 p] 66)) = W at hB hbox hWs ⊢
        obtain ⟨b0, b1, b2, b3⟩ := cells4 hbox
        have htW : TextOwn W base tv t := ht.below hB fun g hg => (hlt g hg).2
        have hne : tv.ownBlock ≠ some w.heap.size := fun e => by have := (hlt _ e).2; omega
        have f2 : ∀ c' t', (W.alloc (.cells c' t')).cell? ⟨w.heap.size, 2, none⟩ = some (.slice a ks.length c) := fun c' t' => alloc_cell _ b2
        have hrb : ∀ w1, (W.alloc (.cells #[.int .u8 40] 5)).drew.grownBy w1 tv.ownBlock → ∀ b, b < base → w1.heap[b]? = w.heap[b]? := fun w1 hg b hb => by
          have := hWs.out
          rw [hg.block b (by simp; omega) fun e => by have := (hlt b e.symm).1; omega, show (W.alloc (.cells #[.int .u8 40] 5)).drew.heap[b]? = (W.alloc (.cells #[.int .u8 40] 5)).heap[b]? from rfl, heap_alloc_old W _ (by omega)]
          exact hB.block b (by omega)
        go_region_held3 (fun w' => w'.cell? ⟨w.heap.size, 2, none⟩ = some (.slice a ks.length c)) (first | go_keep | (exact (hgrow.cell_far _ (by have := hWs.out; simp; omega) hne.symm).trans (f2 _ _)) | (exact (World.cell?_of_block (hb2.block w.heap.size (by have := hWs.out; have := hgrow.size; simp at *; omega) hne1)).trans (by assumption))) (first | (refine step_append_lies _ (by rfl) _ _ _ (by rfl) base 5 i0 _ 1 1 Tryz.underlying84 hi0 hz0 hz1 hz2 rfl (by omega) tv t.length _ (by rfl) ((World.ownsRow.alloc htW _).drew) ⟨W.heap.size, 0, none⟩ 1 1 [.int .u8 40] (by rfl) (by rfl) (World.news_of_block (cs := #[.int .u8 40]) (t := 5) (fr := (0, 0)) (heap_alloc_new W _)) (by simp [Value.oneCell']) (by omega) (by unfold maxLen; omega) (by omega) (by have := hWs.out; simp; omega) (W.heap.size + 1) (by simp) ?_; intro g cap w1 hown1 hgrow hat hlt1; have hne1 : (Value.slice (some ⟨g, 0, none⟩) (t.length + 1) cap).ownBlock ≠ some w.heap.size := (by intro e; simp only [Value.ownBlock, Option.some.injEq] at e; rcases hat with h | h; exact hne (by rw [h, e]); have := hWs.out; omega)) | (go_at_call 46; refine (hc w1 _ (text_one (c := 40) rfl hown1) (by have := hgrow.size; have := hWs.out; simp at *; omega) (hrow.mono fun b hb hl => ⟨hb, hrb w1 hgrow b hb⟩)).mono ?_; rintro e w2 hout; obtain ⟨v2, rfl, hb2, ht2, hm2⟩ := hout.tells; obtain ⟨x2, c2, L2, hL2, rfl, ho2⟩ := text_form ht2))
        have hk1 : KeptT w tv w1 := (KeptT.of_below tv hB).same (kept_grow' hgrow)
        have hm1 : Moved w tv (.slice (some ⟨g, 0, none⟩) (t.length + 1) cap) := moved_lies hat hB.size
        have hs2 : base ≤ w2.heap.size := by have := hk1.size; have := hb2.size; omega
        have hln : L2 ≤ 1000000000 := by have := hL2.out; simp only [List.length_append, List.length_singleton] at this; omega
        go_wp2_with (at_builtin; refine wpList_append_lies _ rfl _ _ 84 rfl base 5 i0 _ 1 1 Tryz.underlying84 hi0 hz0 hz1 hz2 rfl (by omega) (.slice x2 L2 c2) L2 _ rfl (ho2.alloc _) ⟨w2.heap.size, 0, none⟩ 1 1 [.int .u8 41] rfl rfl (World.news_of_block (cs := #[.int .u8 41]) (t := 5) (fr := (0, 0)) (heap_alloc_new w2 _)) (by simp [Value.oneCell']) (by omega) (by unfold maxLen; omega) (by omega) (by have := hs2; simp; omega) (w2.heap.size + 1) (by simp) ?_; intro g3 cap3 w3 hown3 hgrow3 hat3 hlt3)
        go_ret2
        refine ⟨(hk1.trans hm1 hb2).trans (hm1.trans hk1.size hm2) (kept_grow hgrow3), .inr ⟨40 :: (u ++ [41]), _, rfl, rfl, ?_, (hm1.trans hk1.size hm2).trans (Nat.le_trans hk1.size hb2.size) (moved_lies hat3 (Nat.le_refl _))⟩⟩
        have := text_one (c := 41) (by rw [hL2.out]) hown3
        simpa using this
    · have HP : Hid (pN deep (.mk true [] ks p) = none) := by show _ = _; simp only [pN]; rw [if_neg fun h => hd24 h.2]
      have hdd : (24 : Int) ≤ (deep : Int) := by omega
      have hbs0 : (bs []).toList = [] := by rw [ByteArray.toList_eq]; rfl
      rw [HP.out]
      clear HP ih
      go_enter Tryz.func91, Tryz.ntmps91
      go_wp2_with fail
      go_ret2
      exact ⟨KeptT.of_below tv hB, .inl ⟨rfl, _, rfl, fun h => by cases h⟩⟩
  · have HP : Hid (pN deep (.mk true wd ks p) = none) := by show _ = _; simp only [pN]; rw [if_neg fun h => hw h.1]
    have hbs1 : ((bs wd).toList == []) = false := by rw [ByteArray.toList_eq, bs_list, beq_eq_false_iff_ne]; exact hw
    have hbs2 : (bs wd).toList.isEmpty = false := by rw [ByteArray.toList_eq, bs_list]; cases wd with
      | nil => exact absurd rfl hw
      | cons _ _ => rfl
    rw [HP.out]
    clear HP ih
    go_enter Tryz.func91, Tryz.ntmps91
    go_wp2_with fail
    go_ret2
    exact ⟨KeptT.of_below tv hB, .inl ⟨rfl, _, rfl, fun h => by cases h⟩⟩
end Go.Proofs.YtbpdhegfdmppgaaGreatDoor

/- CONTRACTS of sexp.appendNodes, Print. -/
namespace Go.Proofs.YtbpdhegfdmppgaaGreatDoor
open Go.ChangeShapes Go.WideShapes Go.ChangeAt Go.RowKit

theorem node_any (n base : Nat) (w : World) (tv : Value) (t : List UInt8) (il : Bool) (wd : List UInt8) (ks : List Nd) (p : Int) (a : Option Addr) (c deep : Nat) (ih : NodesOut n) (hn : sizeL ks ≤ n) (ht : TextOwn w base tv t) (hbase : base ≤ w.heap.size)
    (hlen : t.length + (2 + wd.length + wtL ks) ≤ 1000000000) (hks : ks.length ≤ 1000000000) (hd : deep ≤ 24) (hrow : Row (fun b => b < base) w a ks) :
    Calls Tryz.prog 91 #[tv, .agg #[.bool il, .string (bs wd), .slice a ks.length c, .int .i64 p], .int .i64 deep] w (OutOf base w tv t (pN deep (.mk il wd ks p)) false) := by
  cases il with
  | false => exact node_word base w tv t wd ks p a c deep ht hbase (by omega) hks
  | true => exact node_list n base w tv t wd ks p a c deep ih hn ht hbase (by omega) hd hrow

theorem wt_at : ∀ (l : List Nd) (k : Nat) (x : Nd), l[k]? = some x → wtL (l.drop k) = Nd.wt x + wtL (l.drop (k + 1)) := fun l k x h => by
  obtain ⟨hk, e⟩ := List.getElem?_eq_some_iff.1 h
  rw [List.drop_eq_getElem_cons hk, e, wtL]
theorem go_at {sep : UInt8} {deep : Nat} {f : Bool} (l : List Nd) (k : Nat) (x : Nd) (h : l[k]? = some x) : pGo sep deep f (l.drop k) = (match pN deep x with | none => none | some a => match pGo sep deep false (l.drop (k + 1)) with | none => none | some b => some ((if f then [] else [sep]) ++ (a ++ b))) := by
  obtain ⟨hk, e⟩ := List.getElem?_eq_some_iff.1 h
  first | (rw [List.drop_eq_getElem_cons hk, e, pGo]; done) | (rw [List.drop_eq_getElem_cons hk, e, pGo]; rfl)

theorem wt_size : ∀ (l : List Nd), sizeL l ≤ wtL l
  | [] => Nat.le_refl _
  | .mk il wd ks p :: l => by
    have h1 := wt_size ks
    have h2 := wt_size l
    simp only [sizeL, wtL, Nd.size, Nd.wt]
    omega
theorem wt_drop : ∀ (l : List Nd) (k : Nat), wtL (l.drop k) ≤ wtL l
  | [], k => by simp [wtL]
  | x :: l, 0 => Nat.le_refl _
  | x :: l, k + 1 => by have := wt_drop l k; simp only [List.drop_succ_cons, wtL]; omega

set_option maxRecDepth 100000 in
set_option maxHeartbeats 6400000 in
theorem nodes_out (n : Nat) : NodesOut n := by
  induction n using Nat.strongRecOn with
  | _ n ih =>
    intro base w tv t l a c deep sep hn ht hbase hlen hd hrow
    obtain ⟨i0, hi0, hz0, hz1, hz2⟩ := info_parts info5s
    have hls := len_size l
    have hlw := wt_size l
    obtain ⟨O, hO⟩ : ∃ O, pGo sep deep true l = O := ⟨_, rfl⟩
    rw [hO]
    have HO : Hid (pGo sep deep true l = O) := hO
    clear hO
    go_enter Tryz.func46, Tryz.ntmps46
    go_wp2_with fail
    go_loopw [0, 15] (fun tx i wr => ∃ (k : Nat) (u : List UInt8), k ≤ l.length ∧ i = .int .i64 k ∧ TextOwn wr base tx (t ++ u) ∧ KeptT w tv wr ∧ Moved w tv tx ∧ u.length + wtL (l.drop k) ≤ wtL l ∧ O = (pGo sep deep (k == 0) (l.drop k)).map (u ++ ·)) (fun _ i _ => l.length - (intOf i).toNat)
    case atStart => exact ⟨0, [], Nat.zero_le _, rfl, by rw [List.append_nil]; exact ht, Kept.refl _ _, Moved.refl _ _, by simp, by rw [← HO.out]; simp⟩
    case round =>
      obtain ⟨k, u, hk, rfl, htx, hkp, hmv, hul, hOk⟩ := hrel
      have HK : Hid (O = (pGo sep deep (k == 0) (l.drop k)).map (u ++ ·)) := hOk
      clear hOk
      obtain ⟨x0, c0, L0, hL0, rfl, ho0⟩ := text_form htx
      have hbel := hkp.below hbase fun g hg => (ht.lt g hg).1
      have hbs : base ≤ wr.heap.size := Nat.le_trans hbase hkp.size
      by_cases hlt : k < l.length
      · obtain ⟨il, wd, ks, p, hx⟩ := nd_eta l[k]
        have hx' : l[k]? = some (.mk il wd ks p) := by rw [List.getElem?_eq_getElem hlt, hx]
        have HG : Hid (l[k]? = some (.mk il wd ks p)) := hx'
        have hsz := size_at l k il wd ks p hx'
        have hwt := wt_at l k _ hx'
        have hrw : Row (fun b => b < base) wr a l := hrow.mono fun b hb _ => ⟨hb, hbel.block b hb⟩
        obtain ⟨xb, xo, xa, xc, rfl, hxS, y0, y1, y2, y3, yr⟩ := hrw.at_ k il wd ks p hx'
        have hksl := len_size ks
        have hk0 : (0 : Int) ≤ (k : Int) := by omega
        have hk1 : (k : Int) < (l.length : Int) := by omega
        clear hx hx' hrw
        have hB : Below wr.heap.size wr (wr.alloc (Obj.cells #[.bool il, .string (bs wd), .slice xa ks.length xc, .int .i64 p] 66)) := (Below.refl _ _).alloc (Nat.le_refl _) _
        have hbox := heap_alloc_new wr (Obj.cells #[.bool il, .string (bs wd), .slice xa ks.length xc, .int .i64 p] 66)
        have hWs : Hid ((wr.alloc (Obj.cells #[.bool il, .string (bs wd), .slice xa ks.length xc, .int .i64 p] 66)).heap.size = wr.heap.size + 1) := by simp [Hid]
        have htl : t.length + u.length = L0 := by have := hL0.out; rw [List.length_append] at this; omega
        have hdk := wt_drop l k
        have h1z : (k + 1 == 0) = false := by simp
        by_cases hkz : k = 0
        · have hkz' : ¬ (0 : Int) < (k : Int) := by omega
          have hkb : (k == 0) = true := by simp [hkz]
          have hcall := node_any (sizeL ks) base (wr.alloc (Obj.cells #[.bool il, .string (bs wd), .slice xa ks.length xc, .int .i64 p] 66)) (.slice x0 L0 c0) (t ++ u) il wd ks p xa xc deep (ih _ (by omega)) (Nat.le_refl _) (by have := hL0.out; unfold TextOwn; rw [← this]; exact ho0.alloc _) (by have := hWs.out; omega) (by rw [List.length_append]; simp only [Nd.wt] at hwt; omega) (by omega) hd (yr.mono fun b hb hl => ⟨hb, hB.block b hl⟩)
          rcases hpn : pN deep (.mk il wd ks p) with _ | z
          · rw [hpn] at hcall
            have HF : Hid (O = none) := by show _ = _; rw [HK.out, go_at l k _ HG.out, hpn]; rfl
            clear hpn hkz hkb h1z
            go_wp2_with (go_at_call 91; refine hcall.mono ?_; rintro e w2 hout; obtain ⟨v2, rfl, hk2⟩ := hout.fails')
            go_ret2
            rw [HF.out]
            exact ⟨(hkp.same (KeptT.of_below tv hB)).trans hmv hk2, .inl ⟨rfl, _, rfl, fun _ => rfl⟩⟩
          · rw [hpn] at hcall
            have hpl := print_len deep _ _ hpn
            have HF : Hid (O = (pGo sep deep (k + 1 == 0) (l.drop (k + 1))).map ((u ++ z) ++ ·)) := by
              show _ = _
              rw [HK.out, go_at l k _ HG.out, hpn, hkb, h1z]
              rcases pGo sep deep false (l.drop (k + 1)) with _ | b <;> simp
            clear hpn hkz hkb h1z
            go_wp2_with (go_at_call 91; refine hcall.mono ?_; rintro e w2 hout; obtain ⟨v2, rfl, hk2, ht2, hm2⟩ := hout.tells)
            go_roundw
            case rel => exact ⟨k + 1, u ++ z, by omega, by go_num, by rw [← List.append_assoc]; exact ht2, (hkp.same (KeptT.of_below tv hB)).trans hmv hk2, hmv.trans (Nat.le_trans hkp.size hB.size) hm2, by rw [List.length_append]; omega, HF.out⟩
            case measure => simp [intOf]; omega
        · have hkz' : (0 : Int) < (k : Int) := by omega
          have hkb : (k == 0) = false := by simp [hkz]
          obtain ⟨W, hW⟩ : ∃ W, wr.alloc (Obj.cells #[.bool il, .string (bs wd), .slice xa ks.length xc, .int .i64 p] 66) = W := ⟨_, rfl⟩
          have HW : Hid (wr.alloc (Obj.cells #[.bool il, .string (bs wd), .slice xa ks.length xc, .int .i64 p] 66) = W) := hW
          have howW : W.ownsRow base 5 1 (.slice x0 L0 c0) L0 (byteCells (bs (t ++ u))) := by rw [← hW]; exact ho0.alloc _
          rw [hW] at hB hbox hWs
          obtain ⟨b0, b1, b2, b3⟩ := cells4 hbox
          have hne : (Value.slice x0 L0 c0).ownBlock ≠ some wr.heap.size := fun e => by have := (ho0.lt _ e).2; omega
          clear hW
          have hstep : ∀ (g cap : Nat) (w1 : World), w1.ownsRow base 5 1 (.slice (some ⟨g, 0, none⟩) (L0 + 1) cap) (L0 + 1) (byteCells (bs (t ++ u)) ++ [.int .u8 sep.toNat]) → (W.alloc (.cells #[.int .u8 sep.toNat] 5)).grownBy w1 (Value.slice x0 L0 c0).ownBlock →
              ((Value.slice x0 L0 c0).ownBlock = some g ∨ g = W.heap.size + 1) →
              Calls Tryz.prog 91 #[.slice (some ⟨g, 0, none⟩) (L0 + 1) cap, .agg #[.bool il, .string (bs wd), .slice xa ks.length xc, .int .i64 p], .int .i64 deep] w1 (OutOf base w1 (.slice (some ⟨g, 0, none⟩) (L0 + 1) cap) (t ++ u ++ [sep]) (pN deep (.mk il wd ks p)) false) ∧
              KeptT w tv w1 ∧ Moved w tv (.slice (some ⟨g, 0, none⟩) (L0 + 1) cap) := fun g cap w1 h1 h2 h3 => by
            have hk1 : KeptT wr (.slice x0 L0 c0) w1 := (KeptT.of_below _ hB).same (kept_grow h2)
            refine ⟨node_any (sizeL ks) base w1 (.slice (some ⟨g, 0, none⟩) (L0 + 1) cap) (t ++ u ++ [sep]) il wd ks p xa xc deep (ih _ (by omega)) (Nat.le_refl _) (text_one (by rw [← hL0.out]) h1) (by have := hk1.size; omega) (by simp only [List.length_append, List.length_singleton]; simp only [Nd.wt] at hwt; omega) (by omega) hd (yr.mono fun b hb hl => ⟨hb, hk1.block b hl fun e => by have := (ho0.lt b e).1; omega⟩), hkp.trans hmv hk1, hmv.trans hkp.size (moved_lies h3 hB.size)⟩
          have hsp0 : (0 : Int) ≤ (sep.toNat : Int) := by omega
          rcases hpn : pN deep (.mk il wd ks p) with _ | z
          · rw [hpn] at hstep
            have HF : Hid (O = none) := by show _ = _; rw [HK.out, go_at l k _ HG.out, hpn]; rfl
            clear hpn hkz hkb h1z
            go_wp2_with (first | (at_builtin; rw [HW.out]; refine wpList_append_lies _ rfl _ _ 84 rfl base 5 i0 _ 1 1 Tryz.underlying84 hi0 hz0 hz1 hz2 rfl (by omega) (.slice x0 L0 c0) L0 _ rfl (howW.alloc _) ⟨wr.heap.size + 1, 0, none⟩ 1 1 [.int .u8 sep.toNat] rfl rfl (by rw [← hWs.out]; exact World.news_of_block (cs := #[.int .u8 sep.toNat]) (t := 5) (fr := (0, 0)) (heap_alloc_new W _)) (by simp [Value.oneCell']) (by omega) (by unfold maxLen; omega) (by omega) (by have := hWs.out; simp; omega) (W.heap.size + 1) (by simp) ?_; intro g cap w1 hown1 hgrow hat hlt1; obtain ⟨hcl, hkw, hmw⟩ := hstep g cap w1 hown1 hgrow hat; have e0 := (hgrow.cell_far ⟨wr.heap.size, 0, none⟩ (by have := hWs.out; simp; omega) hne.symm).trans (alloc_cell _ b0); have e1 := (hgrow.cell_far ⟨wr.heap.size, 1, none⟩ (by have := hWs.out; simp; omega) hne.symm).trans (alloc_cell _ b1); have e2 := (hgrow.cell_far ⟨wr.heap.size, 2, none⟩ (by have := hWs.out; simp; omega) hne.symm).trans (alloc_cell _ b2); have e3 := (hgrow.cell_far ⟨wr.heap.size, 3, none⟩ (by have := hWs.out; simp; omega) hne.symm).trans (alloc_cell _ b3)) | (go_at_call 91; refine hcl.mono ?_; rintro e w2 hout; obtain ⟨v2, rfl, hk2⟩ := hout.fails'))
            go_ret2
            rw [HF.out]
            exact ⟨hkw.trans hmw hk2, .inl ⟨rfl, _, rfl, fun _ => rfl⟩⟩
          · rw [hpn] at hstep
            have hpl := print_len deep _ _ hpn
            have HF : Hid (O = (pGo sep deep (k + 1 == 0) (l.drop (k + 1))).map ((u ++ [sep] ++ z) ++ ·)) := by
              show _ = _
              rw [HK.out, go_at l k _ HG.out, hpn, hkb, h1z]
              rcases pGo sep deep false (l.drop (k + 1)) with _ | b <;> simp
            clear hpn hkz hkb h1z
            go_wp2_with (first | (at_builtin; rw [HW.out]; refine wpList_append_lies _ rfl _ _ 84 rfl base 5 i0 _ 1 1 Tryz.underlying84 hi0 hz0 hz1 hz2 rfl (by omega) (.slice x0 L0 c0) L0 _ rfl (howW.alloc _) ⟨wr.heap.size + 1, 0, none⟩ 1 1 [.int .u8 sep.toNat] rfl rfl (by rw [← hWs.out]; exact World.news_of_block (cs := #[.int .u8 sep.toNat]) (t := 5) (fr := (0, 0)) (heap_alloc_new W _)) (by simp [Value.oneCell']) (by omega) (by unfold maxLen; omega) (by omega) (by have := hWs.out; simp; omega) (W.heap.size + 1) (by simp) ?_; intro g cap w1 hown1 hgrow hat hlt1; obtain ⟨hcl, hkw, hmw⟩ := hstep g cap w1 hown1 hgrow hat; have e0 := (hgrow.cell_far ⟨wr.heap.size, 0, none⟩ (by have := hWs.out; simp; omega) hne.symm).trans (alloc_cell _ b0); have e1 := (hgrow.cell_far ⟨wr.heap.size, 1, none⟩ (by have := hWs.out; simp; omega) hne.symm).trans (alloc_cell _ b1); have e2 := (hgrow.cell_far ⟨wr.heap.size, 2, none⟩ (by have := hWs.out; simp; omega) hne.symm).trans (alloc_cell _ b2); have e3 := (hgrow.cell_far ⟨wr.heap.size, 3, none⟩ (by have := hWs.out; simp; omega) hne.symm).trans (alloc_cell _ b3)) | (go_at_call 91; refine hcl.mono ?_; rintro e w2 hout; obtain ⟨v2, rfl, hk2, ht2, hm2⟩ := hout.tells))
            go_roundw
            case rel => exact ⟨k + 1, u ++ [sep] ++ z, by omega, by go_num, by simpa using ht2, hkw.trans hmw hk2, hmw.trans hkw.size hm2, by simp only [List.length_append, List.length_singleton]; omega, HF.out⟩
            case measure => simp [intOf]; omega
      · have HF : Hid (O = some u) := by show _ = _; rw [HK.out, List.drop_of_length_le (by omega)]; simp [pGo]
        go_wp2_with fail
        go_ret2
        rw [HF.out]
        exact ⟨hkp, .inr ⟨u, _, rfl, rfl, htx, hmv⟩⟩
end Go.Proofs.YtbpdhegfdmppgaaGreatDoor

/- THE CONTRACT of sexp.Print. -/
namespace Go.Proofs.YtbpdhegfdmppgaaGreatDoor
open Go.ChangeShapes Go.WideShapes Go.ChangeAt Go.RowKit

theorem convert_text {w : World} {base : Nat} {v : Value} {t : List UInt8} (h : TextOwn w base v t) : (convert 84 9 v).run Tryz.prog w = .ok (.string (bs t)) w := by
  have h' : w.ownsRow base 5 1 v t.length (byteCells (bs t)) := h
  rcases h.2 with ⟨rfl, h0⟩ | ⟨g, cap, cur, rfl, _⟩
  · have : t = [] := List.eq_nil_of_length_eq_zero h0
    subst this
    rw [run_convert_bytes_string w 84 9 5 none 0 0 Tryz.underlying84 Tryz.underlying5 Tryz.underlying9]
    rfl
  · refine run_convert_bytes_back (P := Tryz.prog) w 84 9 5 ⟨g, 0, none⟩ cap t Tryz.underlying84 Tryz.underlying5 Tryz.underlying9 fun j hj => ?_
    refine h'.cells (g := g) rfl j _ ?_
    rw [byteCells_bs]
    simp [hj]

def prE : Option (List UInt8) → Int | none => 6 | some _ => 0
def prS : Option (List UInt8) → List UInt8 | none => [] | some u => u

theorem retS {a b : ByteArray} {i j : Int} (h : a = b) (h' : i = j) : Ending.returned (.tuple #[.string a, .int .i64 i]) = .returned (.tuple #[.string b, .int .i64 j]) := by rw [h, h']

theorem print_any (l : List Nd) (S : Nat → Prop) (a : Option Addr) (c : Nat) (w : World) (hr : Row S w a l) (hw : wtL l ≤ 1000000000) :
    Calls Tryz.prog 20 #[.slice a l.length c] w fun e w' => e = .returned (.tuple #[.string (bs (prS (pGo 10 0 true l))), .int .i64 (prE (pGo 10 0 true l))]) ∧ Below w.heap.size w w' := by
  have hc := nodes_out (sizeL l) w.heap.size w (.slice none 0 0) [] l a c 0 10 (Nat.le_refl _) (World.ownsRow_nil _ _ _ _) (Nat.le_refl _) (by simpa using hw) (by omega) (hr.mono fun b _ hlt => ⟨hlt, rfl⟩)
  rw [show ((0 : Nat) : Int) = 0 from rfl, show ((UInt8.toNat 10 : Nat) : Int) = 10 from rfl] at hc
  rcases hp : pGo 10 0 true l with _ | u
  · rw [hp] at hc
    go_enter Tryz.func20, Tryz.ntmps20
    go_wp2_with (go_at_call 46; refine hc.mono ?_; rintro e w1 hout; obtain ⟨rfl, hk⟩ := hout.fails)
    go_ret2
    exact ⟨retS rfl rfl, hk.below (Nat.le_refl _) fun g hg => by simp [Value.ownBlock] at hg⟩
  · rw [hp] at hc
    go_enter Tryz.func20, Tryz.ntmps20
    go_wp2_with (go_at_call 46; refine hc.mono ?_; rintro e w1 hout; obtain ⟨v, rfl, hk, ht, hm⟩ := hout.tells; have hcv := convert_text ht)
    go_ret2
    exact ⟨retS rfl rfl, hk.below (Nat.le_refl _) fun g hg => by simp [Value.ownBlock] at hg⟩
end Go.Proofs.YtbpdhegfdmppgaaGreatDoor
