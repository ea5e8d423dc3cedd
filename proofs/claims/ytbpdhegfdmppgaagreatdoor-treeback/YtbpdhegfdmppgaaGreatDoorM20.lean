/- Texts of this proof, put together: SLib, SEachE, SEachP, SEachF, SEachN. -/
import Derived.Test.YtbpdhegfdmppgaaGreatDoorM19
import Derived.Test.YtbpdhegfdmppgaaGreatDoorM5
import Derived.Lib.AppendIntMem

/- What holds of the library's own variables wherever the program goes ('Glob'); strings.Cut at a byte; strconv.Itoa at small numbers, FormatUint at any. -/
namespace Go.Proofs.YtbpdhegfdmppgaaGreatDoor.Sh
open Go.ChangeShapes Go.WideShapes Go.ChangeAt Go.RowKit Go.Shelf Go.Sort

/-- What holds of the library's variables when a call begins. -/
structure Start (W : World) : Prop where
  maxl : ∃ m, W.cell? ⟨Tryz.laysCut_ren.g 1, 0, none⟩ = some (.int .i64 m)
  tab : Lib.TabIs Tryz.prog W "internal/strconv.uint64pow10" .u64 Lib.pow10Tab
/-- All blocks of a world of that sort are as they were; they lie below B. -/
def Glob (B : Nat) (w : World) : Prop := ∃ W : World, Start W ∧ W.heap.size ≤ B ∧ B ≤ w.heap.size ∧ ∀ k, k < W.heap.size → w.heap[k]? = W.heap[k]?
theorem Glob.keep {B : Nat} {w w' : World} {M : Nat → Prop} (h : Glob B w) (hk : Kept M w w') (hM : ∀ k, M k → B ≤ k) : Glob B w' := by
  obtain ⟨W, hs, hB, hB', hw⟩ := h
  refine ⟨W, hs, hB, Nat.le_trans hB' hk.size, fun k hlt => (hk.block k (by omega) fun m => ?_).trans (hw k hlt)⟩
  have := hM k m
  omega
theorem Glob.below {B : Nat} {w w' : World} (h : Glob B w) (hk : Below w.heap.size w w') : Glob B w' := h.keep (Below.kept hk (fun _ => False)) fun _ e => e.elim
theorem Glob.le {B : Nat} {w : World} (h : Glob B w) : B ≤ w.heap.size := by
  obtain ⟨W, hs, hB, hB', hw⟩ := h
  exact hB'
theorem Glob.alloc {B : Nat} {w : World} (h : Glob B w) (o : Obj) : Glob B (w.alloc o) := h.below ((Below.refl _ _).alloc (Nat.le_refl _) o)
theorem Glob.maxl {B : Nat} {w : World} (h : Glob B w) : ∃ m, w.cell? ⟨Tryz.laysCut_ren.g 1, 0, none⟩ = some (.int .i64 m) := by
  obtain ⟨W, hs, hB, hB', hw⟩ := h
  obtain ⟨m, h1⟩ := hs.maxl
  exact ⟨m, by rw [World.cell?_of_block (w := W) (hw _ (World.block_lt_of_cell? W _ h1))]; exact h1⟩
theorem tab_keep {W w : World} {name : String} {k : IntKind} {zs : List Int} (h : Lib.TabIs Tryz.prog W name k zs) (hw : ∀ k, k < W.heap.size → w.heap[k]? = W.heap[k]?) : Lib.TabIs Tryz.prog w name k zs := by
  unfold Lib.TabIs World.var? at *
  cases hg : Tryz.prog.globalNamed name with
  | none => simp [hg] at h
  | some g =>
    simp only [hg, Option.bind_some] at h ⊢
    have hlt : g < W.heap.size := by
      rcases Nat.lt_or_ge g W.heap.size with h' | h'
      · exact h'
      · rw [Array.getElem?_eq_none h'] at h; simp at h
    rw [hw g hlt]; exact h
theorem Glob.tab {B : Nat} {w : World} (h : Glob B w) : Lib.TabIs Tryz.prog w "internal/strconv.uint64pow10" .u64 Lib.pow10Tab := by
  obtain ⟨W, hs, hB, hB', hw⟩ := h
  exact tab_keep hs.tab hw
theorem cutB_bool (b : UInt8) : ∀ l : List UInt8, (Lib.cut l [b]).2.2 = l.contains b := by
  have key : ∀ l : List UInt8, (Lib.index l [b] = -1 ∧ l.contains b = false) ∨ (0 ≤ Lib.index l [b] ∧ l.contains b = true) := by
    intro l
    induction l with
    | nil => left; exact ⟨rfl, rfl⟩
    | cons c l ih =>
      by_cases hc : c = b
      · right
        refine ⟨?_, by simp [hc]⟩
        rw [Lib.index, if_pos (by simp [hc])]; exact Int.le_refl _
      · have hp : ¬ ([b].isPrefixOf (c :: l) = true) := by simp [List.isPrefixOf]; exact fun e => hc e.symm
        have hbc : ¬ b = c := fun e => hc e.symm
        rcases ih with ⟨h1, h2⟩ | ⟨h1, h2⟩
        · left
          exact ⟨by rw [Lib.index, if_neg hp, h1]; rfl, by rw [List.contains_cons, h2]; simp [hbc]⟩
        · right
          have hk : ¬ ((Lib.index l [b] == -1) = true) := by simp; omega
          exact ⟨by rw [Lib.index, if_neg hp, if_neg hk]; omega, by rw [List.contains_cons, h2]; simp⟩
  intro l
  rcases key l with ⟨h1, h2⟩ | ⟨h1, h2⟩
  · rw [Lib.cut, if_neg (by omega), h2]
  · rw [Lib.cut, if_pos (by omega), h2]
/-- strings.Cut at a byte. -/
theorem cut_any {B : Nat} (b : UInt8) (l : List UInt8) (w : World) (hl : l.length ≤ 1000000000) (hg : Glob B w) :
    Calls Tryz.prog 122 #[.string (bs l), .string ⟨#[b]⟩] w fun e w' => e = .returned (.tuple #[.string (bs (cutB b l).1), .string (bs (cutB b l).2), .bool (l.contains b)]) ∧ ∃ n, w' = w.drewN n := by
  obtain ⟨m, hm⟩ := hg.maxl
  refine (Any.strings_Cut Tryz.laysCut (bs l) ⟨#[b]⟩ m w (by rw [bs_size]; omega) hm).mono fun e w' h => ?_
  obtain ⟨h1, h2⟩ := h
  have e1 : (Lib.cut (bs l).data.toList [b]) = ((cutB b l).1, (cutB b l).2, l.contains b) := by
    rw [bs_list, ← (cutB_lib b l).1, ← (cutB_lib b l).2, ← cutB_bool b l]
  refine ⟨?_, h2⟩
  have h1' : e = .returned (.tuple #[.string ⟨(Lib.cut (bs l).data.toList [b]).1.toArray⟩, .string ⟨(Lib.cut (bs l).data.toList [b]).2.1.toArray⟩, .bool (Lib.cut (bs l).data.toList [b]).2.2]) := h1
  rw [e1] at h1'
  exact h1'
theorem itoa_any (i : Nat) (hi : i < 100) (w : World) : Calls Tryz.prog 119 #[.int .i64 i] w fun e w' => e = .returned (.string (bs (Lib.decDigits i))) ∧ w' = w :=
  Any.strconv_Itoa_small Tryz.laysItoa i hi w
theorem small_any (i : Nat) (hi : i < 100) (w : World) : Calls Tryz.prog 126 #[.int .i64 i] w fun e w' => e = .returned (.string (bs (Lib.decDigits i))) ∧ w' = w :=
  Any.internal_strconv_small Tryz.laysSmall i hi w
set_option maxRecDepth 100000 in
set_option maxHeartbeats 1000000 in
theorem fmtI_any {B : Nat} (u : Nat) (hu : u ≤ 4294967295) (w : World) (hg : Glob B w) : Calls Tryz.prog 121 #[.int .u64 u, .int .i64 10] w fun e w' => e = .returned (.string (bs (Lib.decDigits u))) ∧ Below w.heap.size w w' := by
  by_cases hi : u < 100
  · have hi' : (u : Int) < 100 := by omega
    have hs := small_any u hi
    have hw1 : wrap64 (u : Int) = u := by unfold wrap64; omega
    go_enter Tryz.func121, Tryz.ntmps121
    go_wp2_with (first | (go_at_call 126; refine (hs _).mono ?_; rintro e w1 ⟨rfl, hq⟩; have hq' := hq.symm; subst hq'))
    go_ret
    exact ⟨rfl, Below.refl _ _⟩
  · have hi' : ¬ (u : Int) < 100 := by omega
    have hu1 : 1 ≤ u := by omega
    have hu64 : u < 18446744073709551616 := by omega
    have hnd20 : Lib.nDigits u ≤ 20 := by have := Lib.numDigits_eq u hu1 hu64; split at this <;> omega
    have hal : Tryz.prog.arrayLen 154 = 24 := by kernel_rfl
    have hsl1 : ∀ W, (Instr.sliceAt 154 (.pointer (some ⟨w.heap.size, 0, none⟩)) none (some (.int .i64 (Lib.nDigits u : Int))) none).run Tryz.prog W = .ok (.slice (some ⟨w.heap.size, 0, none⟩) (Lib.nDigits u) 24) W := fun W => by
      rw [run_sliceAt_array_h W 154 ⟨w.heap.size, 0, none⟩ (by kernel_rfl) .i64 (Lib.nDigits u : Int) (by omega) (by rw [hal]; omega)]
      go_simp
    have hH0 := Lib.holds_zero0 w 154 (Lib.nDigits u) (by omega)
    have hfmt := Any.internal_strconv_formatBase10 Tryz.laysFmt w.heap.size 0 24 u (Array.replicate (Lib.nDigits u) 0) (w.alloc (.cells Lib.zeros24 154)) hH0 (by rw [Array.size_replicate]; exact Lib.lt_pow_nDigits u) hu64 (by rw [Array.size_replicate]; omega)
    rw [Array.size_replicate] at hfmt
    have hnum := Any.internal_strconv_numDigits Tryz.laysNum u hu1 hu64 (w.alloc (.cells Lib.zeros24 154)) (hg.alloc _).tab
    have HH0 := Lib.hid hH0
    clear hH0 hal
    go_enter Tryz.func121, Tryz.ntmps121
    go_wp2_with (first | (go_at_call 127; refine hnum.mono ?_; rintro e w' ⟨rfl, rfl⟩))
    go_at_call 128
    refine hfmt.mono ?_
    rintro e w' ⟨rfl, k, v', dk, rfl, hF⟩
    have hcv : (convert 84 9 (.slice (some ⟨w.heap.size, 0, none⟩) (Lib.nDigits u) 24)).run Tryz.prog ((putRow (fun (b : UInt8) => Value.int .u8 (b.toNat : Int)) (w.alloc (.cells Lib.zeros24 154)) w.heap.size 0 dk).drewN k) = .ok (.string (bs (Lib.decDigits u))) ((putRow (fun (b : UInt8) => Value.int .u8 (b.toNat : Int)) (w.alloc (.cells Lib.zeros24 154)) w.heap.size 0 dk).drewN k) := by
      have h := run_convert_bytes_back (P := Tryz.prog) ((putRow (fun (b : UInt8) => Value.int .u8 (b.toNat : Int)) (w.alloc (.cells Lib.zeros24 154)) w.heap.size 0 dk).drewN k) 84 9 5 ⟨w.heap.size, 0, none⟩ 24 (Lib.decDigits u) Tryz.underlying84 Tryz.underlying5 Tryz.underlying9 (fun j hj => by
        rw [Lib.row_is_numeral hF j hj, Lib.add_plain, World.cell?_drewN]
        exact cell?_putRow (fun (b : UInt8) => Value.int .u8 (b.toNat : Int)) _ w.heap.size 0 _ dk HH0.out (by rw [hF.size, Array.size_replicate]) j (by rw [hF.size]; rw [Lib.decDigits_length] at hj; exact hj))
      rw [Lib.decDigits_length] at h
      exact h
    obtain ⟨os, eo⟩ := Lib.fin_at w (.cells Lib.zeros24 154) dk k 0
    have HB : Hid (Below w.heap.size w ((putRow (fun (b : UInt8) => Value.int .u8 (b.toNat : Int)) (w.alloc (.cells Lib.zeros24 154)) w.heap.size 0 dk).drewN k)) := by show Below _ _ _; rw [eo]; exact Lib.below_grow _ _ (Nat.le_refl _) _ _
    clear eo
    go_wp2_with fail
    go_ret
    exact ⟨rfl, HB.out⟩
theorem fmtU_any {B : Nat} (u : Nat) (hu : u ≤ 4294967295) (w : World) (hg : Glob B w) : Calls Tryz.prog 111 #[.int .u64 u, .int .i64 10] w fun e w' => e = .returned (.string (bs (Lib.decDigits u))) ∧ Below w.heap.size w w' := by
  have hf := fmtI_any u hu w hg
  go_enter Tryz.func111, Tryz.ntmps111
  go_wp2_with (first | (go_at_call 121; refine hf.mono ?_; rintro e w1 ⟨rfl, hb⟩))
  go_ret
  exact ⟨rfl, hb⟩
end Go.Proofs.YtbpdhegfdmppgaaGreatDoor.Sh

/- CONTRACT of each at expressions, where exprNode's holds of them. -/
namespace Go.Proofs.YtbpdhegfdmppgaaGreatDoor.Sh
open Go.ChangeShapes Go.WideShapes Go.ChangeAt Go.RowKit

theorem src_blk (w : World) (tx e : TypeId) (hk : Tryz.prog.underlying tx = some (.slice e)) (g size : Nat) (cs : List Value) (hg : g = w.heap.size) (hl : cs.length = size) (h1 : ∀ u ∈ cs, u.oneCell' = true) : Src Tryz.prog size tx (.slice (some ⟨g, 0, none⟩) 1 1) 1 cs (w.alloc (.cells cs.toArray e)) := by
  subst hg
  refine Src.ofSlice _ hk ⟨w.heap.size, 0, none⟩ 1 1 cs (by omega) (fun j u hj => ?_) h1
  have e' : (⟨w.heap.size, 0, none⟩ : Addr).add j = ⟨w.heap.size, 0 + j, none⟩ := by unfold Addr.add; split <;> simp_all
  rw [e']
  simp only [World.cell?, heap_alloc_new w]
  simpa using hj
theorem ex_at {w : World} {S : Nat → Prop} {a : Option Addr} {l : List Ex} (h : kEx.row w S a l) (k : Nat) (hk : k < l.length) :
    ∃ b o kind n op name ls a' c', a = some ⟨b, o, none⟩ ∧ l[k] = .mk kind n op name ls ∧ S b ∧ b < w.heap.size ∧ w.cell? ⟨b, o + k * 5, none⟩ = some (.int .i64 kind) ∧ w.cell? ⟨b, o + k * 5 + 1, none⟩ = some (.int .u32 (n : Nat)) ∧ w.cell? ⟨b, o + k * 5 + 2, none⟩ = some (.int .i64 op) ∧ w.cell? ⟨b, o + k * 5 + 3, none⟩ = some (.string (bs name)) ∧ w.cell? ⟨b, o + k * 5 + 4, none⟩ = some (.slice a' ls.length c') ∧ ls.length ≤ c' ∧ exR w S a' ls := by
  obtain ⟨b, o, cs, rfl, hS, hc, hC⟩ := kEx.row_at h k l[k] (List.getElem?_eq_getElem hk)
  obtain ⟨x, hx⟩ : ∃ x, l[k] = x := ⟨_, rfl⟩
  rw [hx] at hC ⊢
  obtain ⟨kind, n, op, name, ls⟩ := x
  have hC' : exC w S cs (.mk kind n op name ls) := hC
  rw [exC] at hC'
  obtain ⟨a', c', rfl, hlc, hr⟩ := hC'
  have h0 := hc 0 _ rfl
  exact ⟨b, o, kind, n, op, name, ls, a', c', rfl, rfl, hS, World.block_lt_of_cell? w _ h0, h0, hc 1 _ rfl, hc 2 _ rfl, hc 3 _ rfl, hc 4 _ rfl, hlc, hr⟩
/-- A list of nodes under way. -/
def Nds (w wr : World) (v : Value) (acc : List Nd) : Prop := kNd.own 66 wr (Own w.heap.size v) w.heap.size v acc ∧ Below w.heap.size w wr
theorem Nds.start (w : World) : Nds w w (.slice none 0 0) [] := ⟨kNd.own_none _ _ _ _, Below.refl _ _⟩
theorem Nds.on {w wr wr' : World} {v : Value} {acc : List Nd} (h : Nds w wr v acc) (hb : Below wr.heap.size wr wr') : Nds w wr' v acc := ⟨kNd.own_keep h.1 (Below.kept hb (fun _ => False)) fun _ h => h.elim, bl_then h.2 hb⟩
theorem Nds.rd {w wr : World} {v : Value} {acc : List Nd} (h : Nds w wr v acc) : kNd.rd wr (fun b => w.heap.size ≤ b) v acc := kNd.own_rd h.1 (fun _ h => h.1) fun g hg => (kNd.own_lt h.1 g hg).1
/-- Behind an append. -/
theorem Nds.app {w wr w1 w3 : World} {v : Value} {acc : List Nd} {xs cs : List Value} {x : Nd} {y : Option Addr} {c : Nat} {o : Obj} (hb : Below w.heap.size w w1) (hlay : kNd.lay w1 (Own w.heap.size v) xs acc) (hlt : ∀ g, v.ownBlock = some g → w.heap.size ≤ g ∧ g < wr.heap.size) (hC : kNd.C w1 (fun b => wr.heap.size ≤ b) cs x) (hwr : w.heap.size ≤ wr.heap.size)
    (hown : w3.ownsRow w.heap.size 66 4 (.slice y (acc.length + 1) c) (acc.length + 1) (xs ++ cs)) (hgrow : (w1.alloc o).grownBy w3 v.ownBlock) (hat : (Value.slice y (acc.length + 1) c).ownBlock = v.ownBlock ∨ (Value.slice y (acc.length + 1) c).ownBlock = some (w1.alloc o).heap.size) :
    Nds w w3 (.slice y (acc.length + 1) c) (acc ++ [x]) := by
  refine ⟨kNd.own_append hlay (kNd.mono hC fun b hb' _ => ⟨⟨by omega, fun e => by have := (hlt b e).2; omega⟩, rfl⟩) (fun k hk => heap_alloc_old w1 o hk) (by simp) hown rfl hgrow fun b e => ?_, ?_⟩
  · rcases hat with h | h
    · exact .inl (by rw [← h]; exact e)
    · rw [h] at e; exact .inr (by cases e; exact Nat.le_refl _)
  · refine Kept.to_below (((Below.kept hb (fun k => w.heap.size ≤ k)).alloc_r o).trans ((Kept.of_grown hgrow).mono fun i _ hi => (hlt i hi).1)) fun _ h => h

set_option maxRecDepth 100000 in
set_option maxHeartbeats 2000000 in
theorem eachE_any {B : Nat} {S : Nat → Prop} (w : World) (a : Option Addr) (l : List Ex) (c : Nat) (h : kEx.row w S a l) (hl : l.length ≤ 1000000) (hg : Glob B w)
    (hf : ∀ x ∈ l, ∀ (S' : Nat → Prop) (w1 : World) (v : Value), Glob B w1 → ExV w1 S' v x → Calls Tryz.prog 90 #[v] w1 (Shows NdV w1 (shE x))) :
    Calls Tryz.prog 112 #[.slice a l.length c, .func (.func 90) #[] #[]] w (Shows kNd.rd w (eachO shE l)) := by
  go_enter Tryz.func112, Tryz.ntmps112
  go_wp2_with fail
  go_loopw [5, 10] (fun v i wr => ∃ (k : Nat) (acc : List Nd), k ≤ l.length ∧ i = .int .i64 k ∧ eachO shE (l.take k) = some acc ∧ Nds w wr v acc) (fun _ i _ => l.length - (intOf i).toNat)
  case atStart => exact ⟨0, [], Nat.zero_le _, rfl, rfl, Nds.start w⟩
  case round =>
    obtain ⟨k, acc, hk, rfl, hacc, hN⟩ := hrel
    obtain ⟨y0, c0, rfl⟩ := kNd.own_form hN.1
    have hal : acc.length ≤ 1000000 := by have := eachO_len shE _ _ hacc; rw [this, List.length_take]; omega
    have HN : Hid (Nds w wr (.slice y0 acc.length c0) acc) := hN
    have HA : Hid (eachO shE (l.take k) = some acc) := hacc
    have hbl := hN.2
    have hsz := hbl.size
    clear hN hacc
    by_cases hlt : k < l.length
    · obtain ⟨b, o, kind, n, op, name, ls, a', c', rfl, hx, hSb, hb, h0, h1, h2, h3, h4, hlc, hrow⟩ := ex_at h k hlt
      have e0 := (hbl.cell (p := ⟨b, o + k * 5, none⟩) hb).trans h0
      have e1 := (hbl.cell (p := ⟨b, o + k * 5 + 1, none⟩) hb).trans h1
      have e2 := (hbl.cell (p := ⟨b, o + k * 5 + 2, none⟩) hb).trans h2
      have e3 := (hbl.cell (p := ⟨b, o + k * 5 + 3, none⟩) hb).trans h3
      have e4 := (hbl.cell (p := ⟨b, o + k * 5 + 4, none⟩) hb).trans h4
      have hk0 : (0 : Int) ≤ (k : Int) := by omega
      have hk1 : (k : Int) < (l.length : Int) := by omega
      have hc := hf l[k] (List.getElem_mem hlt) (fun b => S b ∧ b < w.heap.size) (wr.alloc (.cells #[.int .i64 kind, .int .u32 n, .int .i64 op, .string (bs name), .slice a' ls.length c'] 45)) (.agg #[.int .i64 kind, .int .u32 n, .int .i64 op, .string (bs name), .slice a' ls.length c']) ((hg.below hbl).alloc _) (by
        rw [hx]
        exact ⟨a', c', rfl, hlc, exR_mono (fun i hi hlt => ⟨⟨hi, hlt⟩, by rw [heap_alloc_old wr _ (by omega)]; exact hbl.block i hlt⟩) hrow⟩)
      have HT : Hid (eachO shE (l.take (k + 1)) = (eachO shE (l.take k)).bind fun ys => (shE l[k]).map fun y => ys ++ [y]) := eachO_take shE l k hlt
      have HM : Hid (l[k] ∈ l) := List.getElem_mem hlt
      clear h0 h1 h2 h3 h4 hf hx
      generalize l[k] = x at hc HT HM
      cases hsx : shE x with
      | none =>
        rw [hsx] at hc
        have HF : Hid (eachO shE l = none) := eachO_none shE l x HM.out hsx
        clear hsx HT
        go_wp2_with (first | (go_at_call 90; refine hc.mono ?_; rintro e w2 hG; obtain rfl := hG.bad rfl))
        exact ⟨rfl, .ofBad HF.out (bl_then (bl_alloc hbl _) hG.below)⟩
      | some z =>
        rw [hsx] at hc
        have HS : Hid (eachO shE (l.take (k + 1)) = some (acc ++ [z])) := by show _ = _; rw [HT.out, HA.out, hsx]; rfl
        clear hsx HT
        obtain ⟨il, wd, ks, p⟩ := z
        go_wp2_with (first | (go_at_call 90; refine hc.mono ?_; rintro e w2 hG; obtain ⟨v2, rfl, a2, c2, rfl, hc2, hr2⟩ := hG.ok _ rfl; refine Hid.out ?_))
        refine Lib.hid ?_
        have hb2 : Below wr.heap.size wr w2 := bl_then (bl_alloc (Below.refl _ _) _) hG.below
        have hN2 := HN.out.on hb2
        have hz2 := hb2.size
        obtain ⟨⟨xs, hown, hlay⟩, hbl2⟩ := hN2
        have HLT : Hid (∀ g, (Value.slice y0 acc.length c0).ownBlock = some g → w.heap.size ≤ g ∧ g < wr.heap.size) := kNd.own_lt HN.out.1
        have HC : Hid (kNd.C w2 (fun b => wr.heap.size ≤ b) [.bool il, .string (bs wd), .slice a2 ks.length c2, .int .i64 p] (.mk il wd ks p)) := by
          show ndC _ _ _ _
          rw [ndC]
          exact ⟨a2, c2, rfl, hc2, (ndR_row _ _ _ _).2 (kNd.row_mono (by decide) hr2 fun i hi _ => ⟨by have : wr.heap.size + 1 ≤ i := (by simpa using hi); omega, rfl⟩)⟩
        have HLAY : Hid (kNd.lay w2 (Own w.heap.size (.slice y0 acc.length c0)) xs acc) := hlay
        have HB2 : Hid (Below w.heap.size w w2) := hbl2
        have hsrc := src_blk w2 23 66 Tryz.underlying23 w2.heap.size 4 [.bool il, .string (bs wd), .slice a2 ks.length c2, .int .i64 p] rfl rfl (by simp [Value.oneCell'])
        have hown' : (w2.alloc (.cells #[.bool il, .string (bs wd), .slice a2 ks.length c2, .int .i64 p] 66)).ownsRow w.heap.size 66 4 (.slice y0 acc.length c0) acc.length xs := own_kept hown (Kept.alloc w2 _ (fun _ => False)) (fun _ _ h => h)
        clear hG hc hlay hown hbl2 hb2 e0 e1 e2 e3 e4 hr2
        go_wp2_with (first | (at_builtin; refine wpList_append_src nd_info rfl Tryz.underlying23 (by decide) _ rfl _ _ rfl w.heap.size (Value.slice y0 acc.length c0) acc.length xs rfl hown' _ 1 [.bool il, .string (bs wd), .slice a2 ks.length c2, .int .i64 p] rfl hsrc (by omega) (by simp; omega) ?_; intro y3 c3 w3 hown3 hgrow3 hat3; refine Hid.out ?_) | go_in)
        refine Lib.hid ?_
        have HN3 : Hid (Nds w w3 (.slice y3 (acc.length + 1) c3) (acc ++ [.mk il wd ks p])) := Nds.app HB2.out HLAY.out HLT.out HC.out hsz hown3 hgrow3 hat3
        clear hown3 hgrow3 hat3 hsrc hown'
        go_wp2_with fail
        go_roundw
        case rel => exact ⟨k + 1, acc ++ [.mk il wd ks p], by omega, by go_num, HS.out, HN3.out⟩
        case measure => simp [intOf]; omega
    · have htk : l.take k = l := List.take_of_length_le (by omega)
      rw [htk] at HA
      go_wp2_with fail
      go_ret
      exact .ofOk HA.out hbl HN.out.rd
end Go.Proofs.YtbpdhegfdmppgaaGreatDoor.Sh

/- CONTRACT of each at parameters, where paramNode's holds of them. -/
namespace Go.Proofs.YtbpdhegfdmppgaaGreatDoor.Sh
open Go.ChangeShapes Go.WideShapes Go.ChangeAt Go.RowKit

theorem pa_at {w : World} {S : Nat → Prop} {a : Option Addr} {l : List Pa} (h : kPa.row w S a l) (k : Nat) (hk : k < l.length) :
    ∃ b o nm sc ln, a = some ⟨b, o, none⟩ ∧ l[k] = ⟨nm, sc, ln⟩ ∧ S b ∧ b < w.heap.size ∧ w.cell? ⟨b, o + k * 3, none⟩ = some (.string (bs nm)) ∧ w.cell? ⟨b, o + k * 3 + 1, none⟩ = some (.bool sc) ∧ w.cell? ⟨b, o + k * 3 + 2, none⟩ = some (.int .i64 ln) := by
  obtain ⟨b, o, cs, rfl, hS, hc, rfl⟩ := kPa.row_at h k l[k] (List.getElem?_eq_getElem hk)
  have h0 := hc 0 _ rfl
  exact ⟨b, o, _, _, _, rfl, rfl, hS, World.block_lt_of_cell? w _ h0, h0, hc 1 _ rfl, hc 2 _ rfl⟩
set_option maxRecDepth 100000 in
set_option maxHeartbeats 2000000 in
theorem eachP_any {B : Nat} {S : Nat → Prop} (w : World) (a : Option Addr) (l : List Pa) (c : Nat) (h : kPa.row w S a l) (hl : l.length ≤ 1000000) (hg : Glob B w)
    (hf : ∀ x ∈ l, ∀ (S' : Nat → Prop) (w1 : World) (v : Value), Glob B w1 → PaV w1 S' v x → Calls Tryz.prog 86 #[v] w1 (Shows NdV w1 (shP x))) :
    Calls Tryz.prog 85 #[.slice a l.length c, .func (.func 86) #[] #[]] w (Shows kNd.rd w (eachO shP l)) := by
  go_enter Tryz.func85, Tryz.ntmps85
  go_wp2_with fail
  go_loopw [5, 10] (fun v i wr => ∃ (k : Nat) (acc : List Nd), k ≤ l.length ∧ i = .int .i64 k ∧ eachO shP (l.take k) = some acc ∧ Nds w wr v acc) (fun _ i _ => l.length - (intOf i).toNat)
  case atStart => exact ⟨0, [], Nat.zero_le _, rfl, rfl, Nds.start w⟩
  case round =>
    obtain ⟨k, acc, hk, rfl, hacc, hN⟩ := hrel
    obtain ⟨y0, c0, rfl⟩ := kNd.own_form hN.1
    have hal : acc.length ≤ 1000000 := by have := eachO_len shP _ _ hacc; rw [this, List.length_take]; omega
    have HN : Hid (Nds w wr (.slice y0 acc.length c0) acc) := hN
    have HA : Hid (eachO shP (l.take k) = some acc) := hacc
    have hbl := hN.2
    have hsz := hbl.size
    clear hN hacc
    by_cases hlt : k < l.length
    · obtain ⟨b, o, nm, sc, ln, rfl, hx, hSb, hb, h0, h1, h2⟩ := pa_at h k hlt
      have e0 := (hbl.cell (p := ⟨b, o + k * 3, none⟩) hb).trans h0
      have e1 := (hbl.cell (p := ⟨b, o + k * 3 + 1, none⟩) hb).trans h1
      have e2 := (hbl.cell (p := ⟨b, o + k * 3 + 2, none⟩) hb).trans h2
      have hk0 : (0 : Int) ≤ (k : Int) := by omega
      have hk1 : (k : Int) < (l.length : Int) := by omega
      have hc := hf l[k] (List.getElem_mem hlt) (fun b => S b ∧ b < w.heap.size) (wr.alloc (.cells #[.string (bs nm), .bool sc, .int .i64 ln] 79)) (.agg #[.string (bs nm), .bool sc, .int .i64 ln]) ((hg.below hbl).alloc _) (by
        rw [hx]
        exact ⟨_, rfl, rfl⟩)
      have HT : Hid (eachO shP (l.take (k + 1)) = (eachO shP (l.take k)).bind fun ys => (shP l[k]).map fun y => ys ++ [y]) := eachO_take shP l k hlt
      have HM : Hid (l[k] ∈ l) := List.getElem_mem hlt
      clear h0 h1 h2 hf hx
      generalize l[k] = x at hc HT HM
      cases hsx : shP x with
      | none =>
        rw [hsx] at hc
        have HF : Hid (eachO shP l = none) := eachO_none shP l x HM.out hsx
        clear hsx HT
        go_wp2_with (first | (go_at_call 86; refine hc.mono ?_; rintro e w2 hG; obtain rfl := hG.bad rfl))
        exact ⟨rfl, .ofBad HF.out (bl_then (bl_alloc hbl _) hG.below)⟩
      | some z =>
        rw [hsx] at hc
        have HS : Hid (eachO shP (l.take (k + 1)) = some (acc ++ [z])) := by show _ = _; rw [HT.out, HA.out, hsx]; rfl
        clear hsx HT
        obtain ⟨il, wd, ks, p⟩ := z
        go_wp2_with (first | (go_at_call 86; refine hc.mono ?_; rintro e w2 hG; obtain ⟨v2, rfl, a2, c2, rfl, hc2, hr2⟩ := hG.ok _ rfl; refine Hid.out ?_))
        refine Lib.hid ?_
        have hb2 : Below wr.heap.size wr w2 := bl_then (bl_alloc (Below.refl _ _) _) hG.below
        have hN2 := HN.out.on hb2
        have hz2 := hb2.size
        obtain ⟨⟨xs, hown, hlay⟩, hbl2⟩ := hN2
        have HLT : Hid (∀ g, (Value.slice y0 acc.length c0).ownBlock = some g → w.heap.size ≤ g ∧ g < wr.heap.size) := kNd.own_lt HN.out.1
        have HC : Hid (kNd.C w2 (fun b => wr.heap.size ≤ b) [.bool il, .string (bs wd), .slice a2 ks.length c2, .int .i64 p] (.mk il wd ks p)) := by
          show ndC _ _ _ _
          rw [ndC]
          exact ⟨a2, c2, rfl, hc2, (ndR_row _ _ _ _).2 (kNd.row_mono (by decide) hr2 fun i hi _ => ⟨by have : wr.heap.size + 1 ≤ i := (by simpa using hi); omega, rfl⟩)⟩
        have HLAY : Hid (kNd.lay w2 (Own w.heap.size (.slice y0 acc.length c0)) xs acc) := hlay
        have HB2 : Hid (Below w.heap.size w w2) := hbl2
        have hsrc := src_blk w2 23 66 Tryz.underlying23 w2.heap.size 4 [.bool il, .string (bs wd), .slice a2 ks.length c2, .int .i64 p] rfl rfl (by simp [Value.oneCell'])
        have hown' : (w2.alloc (.cells #[.bool il, .string (bs wd), .slice a2 ks.length c2, .int .i64 p] 66)).ownsRow w.heap.size 66 4 (.slice y0 acc.length c0) acc.length xs := own_kept hown (Kept.alloc w2 _ (fun _ => False)) (fun _ _ h => h)
        clear hG hc hlay hown hbl2 hb2 e0 e1 e2 hr2
        go_wp2_with (first | (at_builtin; refine wpList_append_src nd_info rfl Tryz.underlying23 (by decide) _ rfl _ _ rfl w.heap.size (Value.slice y0 acc.length c0) acc.length xs rfl hown' _ 1 [.bool il, .string (bs wd), .slice a2 ks.length c2, .int .i64 p] rfl hsrc (by omega) (by simp; omega) ?_; intro y3 c3 w3 hown3 hgrow3 hat3; refine Hid.out ?_) | go_in)
        refine Lib.hid ?_
        have HN3 : Hid (Nds w w3 (.slice y3 (acc.length + 1) c3) (acc ++ [.mk il wd ks p])) := Nds.app HB2.out HLAY.out HLT.out HC.out hsz hown3 hgrow3 hat3
        clear hown3 hgrow3 hat3 hsrc hown'
        go_wp2_with fail
        go_roundw
        case rel => exact ⟨k + 1, acc ++ [.mk il wd ks p], by omega, by go_num, HS.out, HN3.out⟩
        case measure => simp [intOf]; omega
    · have htk : l.take k = l := List.take_of_length_le (by omega)
      rw [htk] at HA
      go_wp2_with fail
      go_ret
      exact .ofOk HA.out hbl HN.out.rd
end Go.Proofs.YtbpdhegfdmppgaaGreatDoor.Sh

/- CONTRACT of each at functions, where funcNode's holds of them. -/
namespace Go.Proofs.YtbpdhegfdmppgaaGreatDoor.Sh
open Go.ChangeShapes Go.WideShapes Go.ChangeAt Go.RowKit

theorem fu_at {w : World} {S : Nat → Prop} {a : Option Addr} {l : List Fu} (h : kFu.row w S a l) (k : Nat) (hk : k < l.length) :
    ∃ (b o : Nat) (name : List UInt8) (params : List Pa) (sec : Bool) (body : List Sm) (kk : Int) (nn : Nat) (oo : Int) (mm : List UInt8) (ll : List Ex) (a1 : Option Addr) (c1 : Nat) (a2 : Option Addr) (c2 : Nat) (a3 : Option Addr) (c3 : Nat), a = some ⟨b, o, none⟩ ∧ l[k] = ⟨name, params, sec, body, .mk kk nn oo mm ll⟩ ∧ S b ∧ b < w.heap.size ∧ w.cell? ⟨b, o + k * 9, none⟩ = some (.string (bs name)) ∧ w.cell? ⟨b, o + k * 9 + 1, none⟩ = some (.slice a1 params.length c1) ∧ w.cell? ⟨b, o + k * 9 + 2, none⟩ = some (.bool sec) ∧ w.cell? ⟨b, o + k * 9 + 3, none⟩ = some (.slice a2 body.length c2) ∧ w.cell? ⟨b, o + k * 9 + 4, none⟩ = some (.int .i64 kk) ∧ w.cell? ⟨b, o + k * 9 + 5, none⟩ = some (.int .u32 nn) ∧ w.cell? ⟨b, o + k * 9 + 6, none⟩ = some (.int .i64 oo) ∧ w.cell? ⟨b, o + k * 9 + 7, none⟩ = some (.string (bs mm)) ∧ w.cell? ⟨b, o + k * 9 + 8, none⟩ = some (.slice a3 ll.length c3) ∧ params.length ≤ c1 ∧ body.length ≤ c2 ∧ ll.length ≤ c3 ∧ kPa.row w S a1 params ∧ smR w S a2 body ∧ exR w S a3 ll := by
  obtain ⟨b, o, cs, rfl, hS, hc, hC⟩ := kFu.row_at h k l[k] (List.getElem?_eq_getElem hk)
  obtain ⟨x, hx⟩ : ∃ x, l[k] = x := ⟨_, rfl⟩
  rw [hx] at hC ⊢
  obtain ⟨name, params, sec, body, kk, nn, oo, mm, ll⟩ := x
  obtain ⟨a1, c1, a2, c2, a3, c3, rfl, h1, h2, h3, r1, r2, r3⟩ := hC
  have h0 := hc 0 _ rfl
  exact ⟨b, o, name, params, sec, body, kk, nn, oo, mm, ll, a1, c1, a2, c2, a3, c3, rfl, rfl, hS, World.block_lt_of_cell? w _ h0, h0, hc 1 _ rfl, hc 2 _ rfl, hc 3 _ rfl, hc 4 _ rfl, hc 5 _ rfl, hc 6 _ rfl, hc 7 _ rfl, hc 8 _ rfl, h1, h2, h3, r1, r2, r3⟩
set_option maxRecDepth 100000 in
set_option maxHeartbeats 2000000 in
theorem eachF_any {B : Nat} {S : Nat → Prop} (w : World) (a : Option Addr) (l : List Fu) (c : Nat) (h : kFu.row w S a l) (hl : l.length ≤ 1000000) (hg : Glob B w)
    (hf : ∀ x ∈ l, ∀ (S' : Nat → Prop) (w1 : World) (v : Value), Glob B w1 → FuV w1 S' v x → Calls Tryz.prog 45 #[v] w1 (Shows NdV w1 (shF x))) :
    Calls Tryz.prog 79 #[.slice a l.length c, .func (.func 45) #[] #[]] w (Shows kNd.rd w (eachO shF l)) := by
  go_enter Tryz.func79, Tryz.ntmps79
  go_wp2_with fail
  go_loopw [5, 10] (fun v i wr => ∃ (k : Nat) (acc : List Nd), k ≤ l.length ∧ i = .int .i64 k ∧ eachO shF (l.take k) = some acc ∧ Nds w wr v acc) (fun _ i _ => l.length - (intOf i).toNat)
  case atStart => exact ⟨0, [], Nat.zero_le _, rfl, rfl, Nds.start w⟩
  case round =>
    obtain ⟨k, acc, hk, rfl, hacc, hN⟩ := hrel
    obtain ⟨y0, c0, rfl⟩ := kNd.own_form hN.1
    have hal : acc.length ≤ 1000000 := by have := eachO_len shF _ _ hacc; rw [this, List.length_take]; omega
    have HN : Hid (Nds w wr (.slice y0 acc.length c0) acc) := hN
    have HA : Hid (eachO shF (l.take k) = some acc) := hacc
    have hbl := hN.2
    have hsz := hbl.size
    clear hN hacc
    by_cases hlt : k < l.length
    · obtain ⟨b, o, name, params, sec, body, kk, nn, oo, mm, ll, a1, c1, a2, c2, a3, c3, rfl, hx, hSb, hb, h0, h1, h2, h3, h4, h5, h6, h7, h8, hl1, hl2, hl3, hr1, hr2, hr3⟩ := fu_at h k hlt
      have e0 := (hbl.cell (p := ⟨b, o + k * 9, none⟩) hb).trans h0
      have e1 := (hbl.cell (p := ⟨b, o + k * 9 + 1, none⟩) hb).trans h1
      have e2 := (hbl.cell (p := ⟨b, o + k * 9 + 2, none⟩) hb).trans h2
      have e3 := (hbl.cell (p := ⟨b, o + k * 9 + 3, none⟩) hb).trans h3
      have e4 := (hbl.cell (p := ⟨b, o + k * 9 + 4, none⟩) hb).trans h4
      have e5 := (hbl.cell (p := ⟨b, o + k * 9 + 5, none⟩) hb).trans h5
      have e6 := (hbl.cell (p := ⟨b, o + k * 9 + 6, none⟩) hb).trans h6
      have e7 := (hbl.cell (p := ⟨b, o + k * 9 + 7, none⟩) hb).trans h7
      have e8 := (hbl.cell (p := ⟨b, o + k * 9 + 8, none⟩) hb).trans h8
      have hk0 : (0 : Int) ≤ (k : Int) := by omega
      have hk1 : (k : Int) < (l.length : Int) := by omega
      have HGO : Hid (Goes w (wr.alloc (.cells #[.string (bs name), .slice a1 params.length c1, .bool sec, .slice a2 body.length c2, .int .i64 kk, .int .u32 nn, .int .i64 oo, .string (bs mm), .slice a3 ll.length c3] 47)) S (fun b => S b ∧ b < w.heap.size)) := fun i hi hlt => ⟨⟨hi, hlt⟩, by rw [heap_alloc_old wr _ (by omega)]; exact hbl.block i hlt⟩
      have hc := hf l[k] (List.getElem_mem hlt) (fun b => S b ∧ b < w.heap.size) (wr.alloc (.cells #[.string (bs name), .slice a1 params.length c1, .bool sec, .slice a2 body.length c2, .int .i64 kk, .int .u32 nn, .int .i64 oo, .string (bs mm), .slice a3 ll.length c3] 47)) (.agg #[.string (bs name), .slice a1 params.length c1, .bool sec, .slice a2 body.length c2, .int .i64 kk, .int .u32 nn, .int .i64 oo, .string (bs mm), .slice a3 ll.length c3]) ((hg.below hbl).alloc _) (by
        rw [hx]
        exact ⟨_, rfl, a1, c1, a2, c2, a3, c3, rfl, hl1, hl2, hl3, kPa.row_mono (by decide) hr1 HGO.out, smR_mono HGO.out hr2, exR_mono HGO.out hr3⟩)
      have HT : Hid (eachO shF (l.take (k + 1)) = (eachO shF (l.take k)).bind fun ys => (shF l[k]).map fun y => ys ++ [y]) := eachO_take shF l k hlt
      have HM : Hid (l[k] ∈ l) := List.getElem_mem hlt
      clear h0 h1 h2 h3 h4 h5 h6 h7 h8 hf hx
      generalize l[k] = x at hc HT HM
      cases hsx : shF x with
      | none =>
        rw [hsx] at hc
        have HF : Hid (eachO shF l = none) := eachO_none shF l x HM.out hsx
        clear hsx HT
        go_wp2_with (first | (go_at_call 45; refine hc.mono ?_; rintro e w2 hG; obtain rfl := hG.bad rfl))
        exact ⟨rfl, .ofBad HF.out (bl_then (bl_alloc hbl _) hG.below)⟩
      | some z =>
        rw [hsx] at hc
        have HS : Hid (eachO shF (l.take (k + 1)) = some (acc ++ [z])) := by show _ = _; rw [HT.out, HA.out, hsx]; rfl
        clear hsx HT
        obtain ⟨il, wd, ks, p⟩ := z
        go_wp2_with (first | (go_at_call 45; refine hc.mono ?_; rintro e w2 hG; obtain ⟨v2, rfl, za, zc, rfl, hzc, hzr⟩ := hG.ok _ rfl; refine Hid.out ?_))
        refine Lib.hid ?_
        have hb2 : Below wr.heap.size wr w2 := bl_then (bl_alloc (Below.refl _ _) _) hG.below
        have hN2 := HN.out.on hb2
        have hz2 := hb2.size
        obtain ⟨⟨xs, hown, hlay⟩, hbl2⟩ := hN2
        have HLT : Hid (∀ g, (Value.slice y0 acc.length c0).ownBlock = some g → w.heap.size ≤ g ∧ g < wr.heap.size) := kNd.own_lt HN.out.1
        have HC : Hid (kNd.C w2 (fun b => wr.heap.size ≤ b) [.bool il, .string (bs wd), .slice za ks.length zc, .int .i64 p] (.mk il wd ks p)) := by
          show ndC _ _ _ _
          rw [ndC]
          exact ⟨za, zc, rfl, hzc, (ndR_row _ _ _ _).2 (kNd.row_mono (by decide) hzr fun i hi _ => ⟨by have : wr.heap.size + 1 ≤ i := (by simpa using hi); omega, rfl⟩)⟩
        have HLAY : Hid (kNd.lay w2 (Own w.heap.size (.slice y0 acc.length c0)) xs acc) := hlay
        have HB2 : Hid (Below w.heap.size w w2) := hbl2
        have hsrc := src_blk w2 23 66 Tryz.underlying23 w2.heap.size 4 [.bool il, .string (bs wd), .slice za ks.length zc, .int .i64 p] rfl rfl (by simp [Value.oneCell'])
        have hown' : (w2.alloc (.cells #[.bool il, .string (bs wd), .slice za ks.length zc, .int .i64 p] 66)).ownsRow w.heap.size 66 4 (.slice y0 acc.length c0) acc.length xs := own_kept hown (Kept.alloc w2 _ (fun _ => False)) (fun _ _ h => h)
        clear hG hc hlay hown hbl2 hb2 e0 e1 e2 e3 e4 e5 e6 e7 e8 hzr
        go_wp2_with (first | (at_builtin; refine wpList_append_src nd_info rfl Tryz.underlying23 (by decide) _ rfl _ _ rfl w.heap.size (Value.slice y0 acc.length c0) acc.length xs rfl hown' _ 1 [.bool il, .string (bs wd), .slice za ks.length zc, .int .i64 p] rfl hsrc (by omega) (by simp; omega) ?_; intro y3 c3 w3 hown3 hgrow3 hat3; refine Hid.out ?_) | go_in)
        refine Lib.hid ?_
        have HN3 : Hid (Nds w w3 (.slice y3 (acc.length + 1) c3) (acc ++ [.mk il wd ks p])) := Nds.app HB2.out HLAY.out HLT.out HC.out hsz hown3 hgrow3 hat3
        clear hown3 hgrow3 hat3 hsrc hown'
        go_wp2_with fail
        go_roundw
        case rel => exact ⟨k + 1, acc ++ [.mk il wd ks p], by omega, by go_num, HS.out, HN3.out⟩
        case measure => simp [intOf]; omega
    · have htk : l.take k = l := List.take_of_length_le (by omega)
      rw [htk] at HA
      go_wp2_with fail
      go_ret
      exact .ofOk HA.out hbl HN.out.rd
end Go.Proofs.YtbpdhegfdmppgaaGreatDoor.Sh

/- CONTRACT of each at names. -/
namespace Go.Proofs.YtbpdhegfdmppgaaGreatDoor.Sh
open Go.ChangeShapes Go.WideShapes Go.ChangeAt Go.RowKit

theorem str_at {w : World} {S : Nat → Prop} {a : Option Addr} {l : List (List UInt8)} (h : kStr.row w S a l) (k : Nat) (hk : k < l.length) : ∃ b o, a = some ⟨b, o, none⟩ ∧ b < w.heap.size ∧ w.cell? ⟨b, o + k, none⟩ = some (.string (bs l[k])) := by
  obtain ⟨b, o, cs, rfl, hS, hc, rfl⟩ := kStr.row_at h k l[k] (List.getElem?_eq_getElem hk)
  have h0 := hc 0 _ rfl
  have e : o + k * kStr.n + 0 = o + k := by show o + k * 1 + 0 = o + k; omega
  rw [e] at h0
  exact ⟨b, o, rfl, World.block_lt_of_cell? w _ h0, h0⟩
set_option maxRecDepth 100000 in
set_option maxHeartbeats 2000000 in
theorem eachN_any {S : Nat → Prop} (w : World) (a : Option Addr) (l : List (List UInt8)) (c : Nat) (h : kStr.row w S a l) (hl : l.length ≤ 1000000) :
    Calls Tryz.prog 78 #[.slice a l.length c, .func (.func 77) #[] #[]] w (Shows kNd.rd w (eachO shName l)) := by
  go_enter Tryz.func78, Tryz.ntmps78
  go_wp2_with fail
  go_loopw [5, 10] (fun v i wr => ∃ (k : Nat) (acc : List Nd), k ≤ l.length ∧ i = .int .i64 k ∧ eachO shName (l.take k) = some acc ∧ Nds w wr v acc) (fun _ i _ => l.length - (intOf i).toNat)
  case atStart => exact ⟨0, [], Nat.zero_le _, rfl, rfl, Nds.start w⟩
  case round =>
    obtain ⟨k, acc, hk, rfl, hacc, hN⟩ := hrel
    obtain ⟨y0, c0, rfl⟩ := kNd.own_form hN.1
    have hal : acc.length ≤ 1000000 := by have := eachO_len shName _ _ hacc; rw [this, List.length_take]; omega
    have HN : Hid (Nds w wr (.slice y0 acc.length c0) acc) := hN
    have HA : Hid (eachO shName (l.take k) = some acc) := hacc
    have hbl := hN.2
    have hsz := hbl.size
    clear hN hacc
    by_cases hlt : k < l.length
    · obtain ⟨b, o, rfl, hb, h0⟩ := str_at h k hlt
      have e0 := (hbl.cell (p := ⟨b, o + k, none⟩) hb).trans h0
      have hk0 : (0 : Int) ≤ (k : Int) := by omega
      have hk1 : (k : Int) < (l.length : Int) := by omega
      have hc := nameNode_any l[k]
      have HT : Hid (eachO shName (l.take (k + 1)) = (eachO shName (l.take k)).bind fun ys => (shName l[k]).map fun y => ys ++ [y]) := eachO_take shName l k hlt
      have HM : Hid (l[k] ∈ l) := List.getElem_mem hlt
      clear h0
      generalize l[k] = x at hc HT HM e0
      cases hsx : shName x with
      | none =>
        rw [hsx] at hc
        have HF : Hid (eachO shName l = none) := eachO_none shName l x HM.out hsx
        clear hsx HT
        go_wp2_with (first | (go_at_call 77; refine (hc _).mono ?_; rintro e w2 hG; obtain rfl := hG.bad rfl))
        exact ⟨rfl, .ofBad HF.out (bl_then hbl hG.below)⟩
      | some z =>
        rw [hsx] at hc
        have HS : Hid (eachO shName (l.take (k + 1)) = some (acc ++ [z])) := by show _ = _; rw [HT.out, HA.out, hsx]; rfl
        clear hsx HT
        obtain ⟨il, wd, ks, p⟩ := z
        go_wp2_with (first | (go_at_call 77; refine (hc _).mono ?_; rintro e w2 hG; obtain ⟨v2, rfl, a2, c2, rfl, hc2, hr2⟩ := hG.ok _ rfl; refine Hid.out ?_))
        refine Lib.hid ?_
        have hb2 : Below wr.heap.size wr w2 := hG.below
        have hN2 := HN.out.on hb2
        have hz2 := hb2.size
        obtain ⟨⟨xs, hown, hlay⟩, hbl2⟩ := hN2
        have HLT : Hid (∀ g, (Value.slice y0 acc.length c0).ownBlock = some g → w.heap.size ≤ g ∧ g < wr.heap.size) := kNd.own_lt HN.out.1
        have HC : Hid (kNd.C w2 (fun b => wr.heap.size ≤ b) [.bool il, .string (bs wd), .slice a2 ks.length c2, .int .i64 p] (.mk il wd ks p)) := by
          show ndC _ _ _ _
          rw [ndC]
          exact ⟨a2, c2, rfl, hc2, (ndR_row _ _ _ _).2 hr2⟩
        have HLAY : Hid (kNd.lay w2 (Own w.heap.size (.slice y0 acc.length c0)) xs acc) := hlay
        have HB2 : Hid (Below w.heap.size w w2) := hbl2
        have hsrc := src_blk w2 23 66 Tryz.underlying23 w2.heap.size 4 [.bool il, .string (bs wd), .slice a2 ks.length c2, .int .i64 p] rfl rfl (by simp [Value.oneCell'])
        have hown' : (w2.alloc (.cells #[.bool il, .string (bs wd), .slice a2 ks.length c2, .int .i64 p] 66)).ownsRow w.heap.size 66 4 (.slice y0 acc.length c0) acc.length xs := own_kept hown (Kept.alloc w2 _ (fun _ => False)) (fun _ _ h => h)
        clear hG hc hlay hown hbl2 hb2 e0 hr2
        go_wp2_with (first | (at_builtin; refine wpList_append_src nd_info rfl Tryz.underlying23 (by decide) _ rfl _ _ rfl w.heap.size (Value.slice y0 acc.length c0) acc.length xs rfl hown' _ 1 [.bool il, .string (bs wd), .slice a2 ks.length c2, .int .i64 p] rfl hsrc (by omega) (by simp; omega) ?_; intro y3 c3 w3 hown3 hgrow3 hat3; refine Hid.out ?_) | go_in)
        refine Lib.hid ?_
        have HN3 : Hid (Nds w w3 (.slice y3 (acc.length + 1) c3) (acc ++ [.mk il wd ks p])) := Nds.app HB2.out HLAY.out HLT.out HC.out hsz hown3 hgrow3 hat3
        clear hown3 hgrow3 hat3 hsrc hown'
        go_wp2_with fail
        go_roundw
        case rel => exact ⟨k + 1, acc ++ [.mk il wd ks p], by omega, by go_num, HS.out, HN3.out⟩
        case measure => simp [intOf]; omega
    · have htk : l.take k = l := List.take_of_length_le (by omega)
      rw [htk] at HA
      go_wp2_with fail
      go_ret
      exact .ofOk HA.out hbl HN.out.rd
end Go.Proofs.YtbpdhegfdmppgaaGreatDoor.Sh
