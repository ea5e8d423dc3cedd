/- CONTRACTS of sexp.appendNode, appendNodes, Print. -/
import Derived.Test.YtbedhghcdhbkmaaAppS
import Derived.Test.YtbedhghcdhbkmaaSame
import Derived.Test.YtbedhghcdhbkmaaBytes
import Derived.Deep.RegionHeld3
import Derived.Deep.RegionLaw
import Derived.Deep.DrawnRows
import Derived.Laws.BytesString
namespace Go.Proofs.Ytbedhghcdhbkmaa
open Go.ChangeShapes Go.WideShapes Go.ChangeAt Go.RowKit

mutual
def pN (deep : Nat) : Nd → Option (List UInt8)
  | .mk false wd ks _ => if ks.isEmpty = true ∧ wordB wd = true then some wd else none
  | .mk true wd ks _ => if wd = [] ∧ deep < 24 then (match pGo 32 (deep + 1) true ks with | some t => some (40 :: (t ++ [41])) | none => none) else none
def pGo (sep : UInt8) (deep : Nat) (first : Bool) : List Nd → Option (List UInt8)
  | [] => some []
  | x :: l => match pN deep x with
    | none => none
    | some a => match pGo sep deep false l with
      | none => none
      | some b => some ((if first then [] else [sep]) ++ (a ++ b))
end
mutual
def Nd.wt : Nd → Nat
  | .mk _ wd ks _ => 3 + wd.length + wtL ks
def wtL : List Nd → Nat
  | [] => 0
  | x :: l => Nd.wt x + wtL l
end

def TextOwn (w : World) (base : Nat) (v : Value) (t : List UInt8) : Prop := w.ownsRow base 5 1 v t.length (byteCells (bs t))

theorem byteCells_bs (l : List UInt8) : byteCells (bs l) = l.map fun b => Value.int .u8 b.toNat := by unfold byteCells; rw [bs_list]
theorem byteCells_app (l m : List UInt8) : byteCells (bs (l ++ m)) = byteCells (bs l) ++ byteCells (bs m) := by simp only [byteCells_bs, List.map_append]

/-- Where a text that grew lies: where it lay, or in a block that is new. -/
def Moved (w : World) (u v : Value) : Prop := ∀ g, v.ownBlock = some g → u.ownBlock = some g ∨ w.heap.size ≤ g
/-- All but a text's own block is as it was. -/
def KeptT (w : World) (u : Value) (w' : World) : Prop := Kept (fun k => u.ownBlock = some k) w w'
theorem KeptT.trans {w w1 w2 : World} {u v : Value} (h : KeptT w u w1) (hm : Moved w u v) (k : KeptT w1 v w2) : KeptT w u w2 :=
  ⟨k.os.trans h.os, k.tape.trans h.tape, k.output.trans h.output, Nat.le_trans h.size k.size, fun i hi hx => (k.block i (Nat.lt_of_lt_of_le hi h.size) fun e => (hm i e).elim hx fun x => by omega).trans (h.block i hi hx)⟩
theorem Moved.trans {w w1 : World} {u v x : Value} (h : Moved w u v) (hs : w.heap.size ≤ w1.heap.size) (k : Moved w1 v x) : Moved w u x := fun g hg => (k g hg).elim (fun e => h g e) fun e => .inr (by omega)
theorem Moved.refl (w : World) (u : Value) : Moved w u u := fun _ hg => .inl hg
theorem KeptT.of_below {w w' : World} (u : Value) (h : Below w.heap.size w w') : KeptT w u w' := Below.kept h _
theorem KeptT.same {w w1 w2 : World} {u : Value} (h : KeptT w u w1) (k : KeptT w1 u w2) : KeptT w u w2 := h.trans (Moved.refl w u) k
theorem KeptT.below {w w' : World} {u : Value} {base : Nat} (h : KeptT w u w') (hb : base ≤ w.heap.size) (hu : ∀ g, u.ownBlock = some g → base ≤ g) : Below base w w' := Kept.below h hb hu

/-- What appendNodes and appendNode leave. -/
def OutOf (base : Nat) (w : World) (tv : Value) (t : List UInt8) (o : Option (List UInt8)) (nil : Bool) (e : Ending) (w' : World) : Prop :=
  KeptT w tv w' ∧ ((o = none ∧ ∃ v, e = .returned (.tuple #[v, .bool false]) ∧ (nil = true → v = .slice none 0 0)) ∨ ∃ u v, o = some u ∧ e = .returned (.tuple #[v, .bool true]) ∧ TextOwn w' base v (t ++ u) ∧ Moved w tv v)

theorem TextOwn.below {w w' : World} {base B : Nat} {v : Value} {t : List UInt8} (h : TextOwn w base v t) (hb : Below B w w') (hB : ∀ g, v.ownBlock = some g → g < B) : TextOwn w' base v t := by
  refine ⟨h.1, ?_⟩
  rcases h.2 with h0 | ⟨g, cap, cur, rfl, q, hg, rest⟩
  · exact .inl h0
  · exact .inr ⟨g, cap, cur, rfl, q, by rw [hb.block g (hB g rfl)]; exact hg, rest⟩
theorem TextOwn.lt {w : World} {base : Nat} {v : Value} {t : List UInt8} (h : TextOwn w base v t) : ∀ g, v.ownBlock = some g → base ≤ g ∧ g < w.heap.size := World.ownsRow.lt h

theorem moved_of {w W : World} {u v : Value} (h : v.ownBlock = u.ownBlock ∨ v.ownBlock = some W.heap.size) (hs : w.heap.size ≤ W.heap.size) : Moved w u v := fun g hg => by
  rcases h with h | h
  · exact .inl (by rw [← h]; exact hg)
  · rw [h] at hg; cases hg; exact .inr hs

theorem word_bs (wd : List UInt8) (w : World) : Calls Try.prog 16 #[.string (bs wd)] w fun e w' => e = .returned (.bool (wordB wd)) ∧ Below w.heap.size w w' := by
  have := word_any (bs wd) w
  rw [bs_list] at this
  exact this

theorem text_snoc {w : World} {base : Nat} {y : Option Addr} {c : Nat} {t wd : List UInt8} (h : w.ownsRow base 5 1 (.slice y (t.length + (bs wd).size) c) (t.length + (bs wd).size) (byteCells (bs t) ++ byteCells (bs wd))) : TextOwn w base (.slice y (t.length + (bs wd).size) c) (t ++ wd) := by
  unfold TextOwn
  rw [byteCells_app, List.length_append, ← bs_size wd]
  exact h

attribute [local go_sem ↓] Go.wp_at_zero Go.wp_at_succ

set_option maxRecDepth 100000 in
set_option maxHeartbeats 3200000 in
/-- A node that is no list. -/
theorem node_word (base : Nat) (w : World) (tv : Value) (t : List UInt8) (wd : List UInt8) (ks : List Nd) (p : Int) (a : Option Addr) (c deep : Nat) (ht : TextOwn w base tv t) (hbase : base ≤ w.heap.size) (hlen : t.length + wd.length ≤ 1000000000) (hks : ks.length ≤ 1000000000) :
    Calls Try.prog 31 #[tv, .agg #[.bool false, .string (bs wd), .slice a ks.length c, .int .i64 p], .int .i64 deep] w (OutOf base w tv t (pN deep (.mk false wd ks p)) false) := by
  have hB : Below w.heap.size w (w.alloc (Obj.cells #[.bool false, .string (bs wd), .slice a ks.length c, .int .i64 p] 37)) := (Below.refl _ _).alloc (Nat.le_refl _) _
  have hbox := heap_alloc_new w (Obj.cells #[.bool false, .string (bs wd), .slice a ks.length c, .int .i64 p] 37)
  have hlt := ht.lt
  have hWs : Hid ((w.alloc (Obj.cells #[.bool false, .string (bs wd), .slice a ks.length c, .int .i64 p] 37)).heap.size = w.heap.size + 1) := by simp [Hid]
  have hbs : (bs wd).size = wd.length := bs_size wd
  have HBs : Hid ((bs wd).size = wd.length) := hbs
  clear hbs
  by_cases h0 : ks.length = 0
  · have hk0 : ks = [] := List.eq_nil_of_length_eq_zero h0
    subst hk0
    have HP : Hid (pN deep (.mk false wd [] p) = if wordB wd = true then some wd else none) := by
      show _ = _
      simp only [pN]
      simp
    rw [HP.out]
    clear HP h0
    simp only [List.length_nil] at *
    rcases hwb : wordB wd with _ | _
    all_goals
      go_enter Try.func31, Try.ntmps31
      go_wp2_with fail
      generalize (w.alloc (Obj.cells #[Value.bool false, Value.string (bs wd), Value.slice a 0 c, Value.int IntKind.i64 p] 37)) = W at hB hbox hWs ⊢
      obtain ⟨b0, b1, b2, b3⟩ := cells4 hbox
      have htW : TextOwn W base tv t := ht.below hB fun g hg => (hlt g hg).2
      have hne : tv.ownBlock ≠ some w.heap.size := fun e => by have := (hlt _ e).2; omega
      first | (go_region_held3 (fun w' => w'.cell? ⟨w.heap.size, 1, none⟩ = some (.string (bs wd)) ∧ w'.cell? ⟨w.heap.size, 2, none⟩ = some (.slice a 0 c)) (first | go_keep | (go_split_ands; exact ⟨(hgrow.cell_far _ (by have := hWs.out; simp; omega) hne.symm).trans (by assumption), (hgrow.cell_far _ (by have := hWs.out; simp; omega) hne.symm).trans (by assumption)⟩) | (go_split_ands; exact ⟨(hgrow.cell_far _ (by have := hWs.out; have := hb2.size; simp at *; omega) hne.symm).trans (by assumption), (hgrow.cell_far _ (by have := hWs.out; have := hb2.size; simp at *; omega) hne.symm).trans (by assumption)⟩) | (go_split_ands; exact ⟨(hb2.cell (by have := hWs.out; simp; omega)).trans (by assumption), (hb2.cell (by have := hWs.out; simp; omega)).trans (by assumption)⟩) | (go_split_ands; exact ⟨(hb2.cell (by have := hWs.out; have := hgrow.size; simp at *; omega)).trans (by assumption), (hb2.cell (by have := hWs.out; have := hgrow.size; simp at *; omega)).trans (by assumption)⟩)) (first | (refine step_append_str rfl _ _ (by rfl) base tv t.length _ (by rfl) (World.ownsRow.drew htW) (bs wd) (by rfl) (by have := HBs.out; omega) (by have := hWs.out; simp; omega) ?_; intro y cy w1 hown1 hgrow hat) | (refine step_append_str rfl _ _ (by rfl) base tv t.length _ (by rfl) ht2 (bs wd) (by rfl) (by have := HBs.out; omega) (by have := hWs.out; have := hb2.size; simp at this; omega) ?_; intro y cy w1 hown1 hgrow hat) | (go_at_call 16; refine (word_bs wd _).mono ?_; rintro e w2 ⟨rfl, hb2⟩; (try have ht2 : TextOwn w2 base tv t := htW.below (B := W.heap.size) hb2 (fun g hg => (htW.lt g hg).2))))) | fail
      go_wp2_with fail
      go_ret2
      have hk1 : KeptT w tv w1 := (KeptT.of_below tv hB.drew).same (Kept.of_grown hgrow)
      have hbb : KeptT w tv w2 := hk1.same (KeptT.of_below tv hb2)
      have htx : TextOwn w2 base (.slice y (t.length + (bs wd).size) cy) (t ++ wd) := (text_snoc hown1).below hb2 fun g hg => ((text_snoc hown1).lt g hg).2
      first
      | exact ⟨hbb, .inl ⟨rfl, _, rfl, fun h => by cases h⟩⟩
      | exact ⟨hbb, .inr ⟨wd, _, rfl, rfl, htx, moved_of (W := W.drew) hat hB.size⟩⟩
  · have hz : ((ks.length : Int) == 0) = false := by rw [beq_eq_false_iff_ne]; omega
    have HP : Hid (pN deep (.mk false wd ks p) = none) := by
      show _ = _
      simp only [pN]
      rw [if_neg]
      rintro ⟨h, _⟩
      exact h0 (by simpa using h)
    rw [HP.out]
    clear HP
    go_enter Try.func31, Try.ntmps31
    go_wp2_with fail
    generalize (w.alloc (Obj.cells #[Value.bool false, Value.string (bs wd), Value.slice a ks.length c, Value.int IntKind.i64 p] 37)) = W at hB hbox hWs ⊢
    obtain ⟨b0, b1, b2, b3⟩ := cells4 hbox
    have htW : TextOwn W base tv t := ht.below hB fun g hg => (hlt g hg).2
    have hne : tv.ownBlock ≠ some w.heap.size := fun e => by have := (hlt _ e).2; omega
    first | (go_region_law ((refine step_append_str rfl _ _ (by rfl) base tv t.length _ (by rfl) (World.ownsRow.drew htW) (bs wd) (by rfl) (by have := HBs.out; omega) (by have := hWs.out; simp; omega) ?_; intro y cy w1 hown1 hgrow hat; have e1 : w1.cell? ⟨w.heap.size, 1, none⟩ = some (.string (bs wd)) := (hgrow.cell_far _ (by have := hWs.out; simp; omega) hne.symm).trans b1; have e2 : w1.cell? ⟨w.heap.size, 2, none⟩ = some (.slice a ks.length c) := (hgrow.cell_far _ (by have := hWs.out; simp; omega) hne.symm).trans b2))) | fail
    all_goals
      go_wp2_with fail
      go_ret2
      exact ⟨(KeptT.of_below tv hB.drew).same (Kept.of_grown hgrow), .inl ⟨rfl, _, rfl, fun h => by cases h⟩⟩

theorem OutOf.fails {base : Nat} {w : World} {tv : Value} {t : List UInt8} {e : Ending} {w' : World} (h : OutOf base w tv t none true e w') : e = .returned (.tuple #[.slice none 0 0, .bool false]) ∧ KeptT w tv w' := by
  obtain ⟨hb, ⟨_, v, rfl, hv⟩ | ⟨u, v, hu, _⟩⟩ := h
  · rw [hv rfl]; exact ⟨rfl, hb⟩
  · cases hu
theorem OutOf.tells {base : Nat} {w : World} {tv : Value} {t u : List UInt8} {nl : Bool} {e : Ending} {w' : World} (h : OutOf base w tv t (some u) nl e w') : ∃ v, e = .returned (.tuple #[v, .bool true]) ∧ KeptT w tv w' ∧ TextOwn w' base v (t ++ u) ∧ Moved w tv v := by
  obtain ⟨hb, ⟨hu, _⟩ | ⟨u', v, hu, rfl, ht, hm⟩⟩ := h
  · cases hu
  · cases hu; exact ⟨v, rfl, hb, ht, hm⟩
theorem OutOf.fails' {base : Nat} {w : World} {tv : Value} {t : List UInt8} {nl : Bool} {e : Ending} {w' : World} (h : OutOf base w tv t none nl e w') : ∃ v, e = .returned (.tuple #[v, .bool false]) ∧ KeptT w tv w' := by
  obtain ⟨hb, ⟨_, v, rfl, hv⟩ | ⟨u, v, hu, _⟩⟩ := h
  · exact ⟨v, rfl, hb⟩
  · cases hu

mutual
theorem print_len (deep : Nat) : ∀ (x : Nd) (u : List UInt8), pN deep x = some u → u.length + 1 ≤ Nd.wt x
  | .mk false wd ks p, u, h => by
    simp only [pN] at h
    split at h
    · cases h; simp only [Nd.wt]; omega
    · cases h
  | .mk true wd ks p, u, h => by
    simp only [pN] at h
    split at h
    · rcases hg : pGo 32 (deep + 1) true ks with _ | v
      · rw [hg] at h; cases h
      · rw [hg] at h
        have := print_lenL 32 (deep + 1) true ks v hg
        cases h
        simp only [Nd.wt, List.length_cons, List.length_append, List.length_nil]
        omega
    · cases h
theorem print_lenL (sep : UInt8) (deep : Nat) (f : Bool) : ∀ (l : List Nd) (u : List UInt8), pGo sep deep f l = some u → u.length ≤ wtL l
  | [], u, h => by simp only [pGo] at h; cases h; exact Nat.zero_le _
  | x :: l, u, h => by
    simp only [pGo] at h
    rcases hx : pN deep x with _ | a
    · rw [hx] at h; cases h
    · rcases hl : pGo sep deep false l with _ | b
      · rw [hx, hl] at h; cases h
      · rw [hx, hl] at h
        have h1 := print_len deep x a hx
        have h2 := print_lenL sep deep false l b hl
        cases h
        simp only [wtL, List.length_append]
        split <;> simp only [List.length_nil, List.length_singleton] <;> omega
end
theorem print_len_of {sep : UInt8} {deep : Nat} {f : Bool} {l : List Nd} {u : List UInt8} (h : pGo sep deep f l = some u) : u.length ≤ wtL l := print_lenL sep deep f l u h

/-- The contract of appendNodes, for nodes of a size. -/
def NodesOut (n : Nat) : Prop := ∀ (base : Nat) (w : World) (tv : Value) (t : List UInt8) (l : List Nd) (a : Option Addr) (c deep : Nat) (sep : UInt8), sizeL l ≤ n → TextOwn w base tv t → base ≤ w.heap.size → t.length + wtL l ≤ 1000000000 → deep ≤ 24 →
  Row (fun b => b < base) w a l → Calls Try.prog 22 #[tv, .slice a l.length c, .int .u8 sep.toNat, .int .i64 deep] w (OutOf base w tv t (pGo sep deep true l) true)

theorem one_byte (c : UInt8) : byteCells (bs [c]) = [.int .u8 c.toNat] := by rw [byteCells_bs]; rfl

theorem text_one {w : World} {base : Nat} {v : Value} {n : Nat} {t : List UInt8} {c : UInt8} (hn : n = t.length + 1) (h : w.ownsRow base 5 1 v n (byteCells (bs t) ++ [.int .u8 c.toNat])) : TextOwn w base v (t ++ [c]) := by
  unfold TextOwn
  rw [byteCells_app, one_byte, List.length_append, List.length_singleton, ← hn]
  exact h

end Go.Proofs.Ytbedhghcdhbkmaa
