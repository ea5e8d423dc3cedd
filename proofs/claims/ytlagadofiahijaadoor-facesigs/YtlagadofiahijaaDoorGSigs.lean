/- CONTRACT of Sigs. -/
import Derived.Test.YtlagadofiahijaaDoorGTy
import Derived.Test.YtlagadofiahijaaDoorFGuess
import Derived.Deep.RegionLaw
import Derived.Deep.RegionHeld3
namespace Go.Proofs.YtlagadofiahijaaDoor
open Go.ChangeShapes Go.WideShapes Go.ChangeAt Go.RowKit

theorem bs_cat' (a b : List UInt8) : bs a ++ bs b = bs (a ++ b) := by
  unfold bs
  apply ByteArray.ext
  simp
def sigOf (nm : List UInt8) (f : Sh.Fu) : Sg := ⟨nm ++ 46 :: f.name, tysL f.params, f.sec⟩
def sigsL (u : Sh.Un) : List Sg := u.funcs.map (sigOf u.name)
theorem sigsL_len (u : Sh.Un) : (sigsL u).length = u.funcs.length := by simp [sigsL]
theorem sigs_take (nm : List UInt8) (l : List Sh.Fu) (k : Nat) (hk : k < l.length) : (l.take (k + 1)).map (sigOf nm) = (l.take k).map (sigOf nm) ++ [sigOf nm l[k]] := by
  rw [List.take_succ_eq_append_getElem hk, List.map_append]
  rfl
theorem name_cat (a b : List UInt8) : bs a ++ ⟨#[46]⟩ ++ bs b = bs (a ++ 46 :: b) := by
  have h : (⟨#[46]⟩ : ByteArray) = bs [46] := rfl
  rw [h, bs_cat', bs_cat']
  congr 1
  simp
abbrev unO (nm : List UInt8) (a1 : Option Addr) (n1 c1 : Nat) (a2 : Option Addr) (n2 c2 : Nat) : Obj := .cells #[.string (bs nm), .slice a1 n1 c1, .slice a2 n2 c2] 25
abbrev fuO (nm : List UInt8) (a1 : Option Addr) (n1 c1 : Nat) (s : Bool) (a2 : Option Addr) (n2 c2 : Nat) (k : Int) (m : Nat) (o : Int) (nn : List UInt8) (a3 : Option Addr) (n3 c3 : Nat) : Obj :=
  .cells #[.string (bs nm), .slice a1 n1 c1, .bool s, .slice a2 n2 c2, .int .i64 k, .int .u32 (m : Int), .int .i64 o, .string (bs nn), .slice a3 n3 c3] 51
theorem sig_own {w5 wr w6 : World} {base n : Nat} {v : Value} {xs : List Value} (h : wr.ownsRow base 33 3 v n xs) (h5 : Below wr.heap.size wr w5) (h6 : Below w5.drew.heap.size w5.drew w6) (o : Obj) : (w6.alloc o).ownsRow base 33 3 v n xs :=
  own_kept (own_kept (own_kept h (Below.kept h5 (fun _ => False)) fun _ _ h => h) (Below.to_kept (Kept.refl (fun _ => False) w5).drew h6) fun _ _ h => h) (Kept.alloc _ o (fun _ => False)) fun _ _ h => h
theorem sig_keep {w wr w5 w6 w7 : World} {v : Value} {o : Obj} (hvl : ∀ g, v.ownBlock = some g → w.heap.size + 1 ≤ g ∧ g < wr.heap.size) (hlt : ∀ b, b = w.heap.size ∨ b = wr.heap.size → b < w5.drew.heap.size) (h6 : Below w5.drew.heap.size w5.drew w6) (hg : (w6.alloc o).grownBy w7 v.ownBlock) :
    ∀ b, b = w.heap.size ∨ b = wr.heap.size → w7.heap[b]? = w5.heap[b]? := fun b hb => by
  have h1 := hlt b hb
  have h2 := h6.size
  have hne : some b ≠ v.ownBlock := fun e => by
    have := hvl b e.symm
    rcases hb with h | h <;> omega
  exact (hg.block b (by simp; omega) hne).trans ((heap_alloc_old w6 o (by omega)).trans (h6.block b h1))
theorem sigs_below {w wr w5 w6 w7 : World} {v : Value} {o : Obj} (hb : Below w.heap.size w wr) (hvl : ∀ g, v.ownBlock = some g → w.heap.size + 1 ≤ g ∧ g < wr.heap.size) (h5 : Below wr.heap.size wr w5) (h6 : Below w5.drew.heap.size w5.drew w6) (hg : (w6.alloc o).grownBy w7 v.ownBlock) : Below w.heap.size w w7 :=
  Kept.to_below ((((Below.kept (bl_then hb h5) (fun i => w.heap.size ≤ i)).trans (((Kept.refl _ w5).drew).trans (Below.kept h6 _))).trans (Kept.alloc w6 o _)).trans ((Kept.of_grown hg).mono fun i _ e => by have := (hvl i e).1; omega)) fun _ h => h
theorem sigs_push {w wr w5 w6 w7 : World} {y ya y7 : Option Addr} {k cc yc c7 : Nat} {xs : List Value} {acc : List Sg} {tl : List Ty} {nm : List UInt8} {sec : Bool} {sg : Sg} (hlay : kSg.lay wr (Own (w.heap.size + 1) (.slice y k cc)) xs acc)
    (hvl : ∀ g, (Value.slice y k cc).ownBlock = some g → w.heap.size + 1 ≤ g ∧ g < wr.heap.size) (h5 : Below wr.heap.size wr w5) (hz5 : wr.heap.size < w5.heap.size) (h6 : Below w5.drew.heap.size w5.drew w6) (hyr : kTy.row w6 (fun b => w5.drew.heap.size ≤ b) ya tl) (hyc : tl.length ≤ yc)
    (hown : w7.ownsRow (w.heap.size + 1) 33 3 (.slice y7 (k + 1) c7) (k + 1) (xs ++ [.string (bs nm), .slice ya tl.length yc, .bool sec])) (hg : (w6.alloc (.cells #[.string (bs nm), .slice ya tl.length yc, .bool sec] 33)).grownBy w7 (Value.slice y k cc).ownBlock)
    (hat : (Value.slice y7 (k + 1) c7).ownBlock = (Value.slice y k cc).ownBlock ∨ (Value.slice y7 (k + 1) c7).ownBlock = some (w6.alloc (.cells #[.string (bs nm), .slice ya tl.length yc, .bool sec] 33)).heap.size) (hlen : acc.length = k) (e1 : sg.name = nm) (e2 : sg.ps = tl) (e3 : sg.sec = sec) (hwr : w.heap.size + 1 ≤ wr.heap.size) :
    kSg.own 33 w7 (Own (w.heap.size + 1) (.slice y7 (k + 1) c7)) (w.heap.size + 1) (.slice y7 (k + 1) c7) (acc ++ [sg]) := by
  have hz6 : w5.heap.size ≤ w6.heap.size := h6.size
  have hlay6 : kSg.lay w6 (Own (w.heap.size + 1) (.slice y k cc)) xs acc := kSg.lay_mono hlay fun b hb hlt => ⟨hb, (h6.block b (by have := h5.size; show b < w5.heap.size; omega)).trans (h5.block b hlt)⟩
  have hCC : kSg.C w6 (Own (w.heap.size + 1) (.slice y k cc)) [.string (bs nm), .slice ya tl.length yc, .bool sec] sg := by
    subst e1 e2 e3
    exact ⟨ya, yc, rfl, hyc, kTy.row_mono (by decide) hyr fun b hb _ => ⟨⟨by have h : w5.heap.size ≤ b := hb; omega, fun e => by have := (hvl b e).2; have h : w5.heap.size ≤ b := hb; omega⟩, rfl⟩⟩
  exact kSg.own_append hlay6 hCC (fun i hi => heap_alloc_old _ _ hi) (by simp) hown (by omega) hg (fun b e => by
    rcases hat with h | h
    · exact .inl (h.symm.trans e)
    · exact .inr (by have := Option.some.inj (h.symm.trans e); omega))
theorem four_fu {w : World} {b : Nat} {x0 x1 x2 x3 x4 x5 x6 x7 x8 : Value} {t : TypeId} (h : w.heap[b]? = some (.cells #[x0, x1, x2, x3, x4, x5, x6, x7, x8] t)) : w.cell? ⟨b, 0, none⟩ = some x0 ∧ w.cell? ⟨b, 1, none⟩ = some x1 ∧ w.cell? ⟨b, 2, none⟩ = some x2 ∧ w.cell? ⟨b, 3, none⟩ = some x3 := by
  refine ⟨?_, ?_, ?_, ?_⟩ <;> simp [World.cell?, h]
set_option maxRecDepth 100000 in
set_option maxHeartbeats 8000000 in
theorem sigs_any {S : Nat → Prop} (w : World) (u : Sh.Un) (a1 : Option Addr) (c1 : Nat) (a2 : Option Addr) (c2 : Nat) (h : Sh.kFu.row w S a2 u.funcs) (hl : u.funcs.length ≤ 1000000) (hp : ∀ f ∈ u.funcs, f.params.length ≤ 1000000 ∧ f.name.length ≤ 1000000) (hun : u.name.length ≤ 1000000) :
    Calls Tryd.prog 6 #[.agg #[.string (bs u.name), .slice a1 u.imports.length c1, .slice a2 u.funcs.length c2]] w fun e w' => (∃ v, e = .returned v ∧ kSg.rd w' (fun b => w.heap.size ≤ b) v (sigsL u)) ∧ Below w.heap.size w w' := by
  have hb0 := bl_alloc (Below.refl w.heap.size w) (unO u.name a1 u.imports.length c1 a2 u.funcs.length c2)
  have hx0 := heap_alloc_new w (unO u.name a1 u.imports.length c1 a2 u.funcs.length c2)
  obtain ⟨k0, k1, k2, _, _, _⟩ := cells3 hx0
  have HX0 : Hid _ := hx0
  have HB0 : Hid _ := hb0
  clear hx0 hb0
  go_enter Tryd.func6, Tryd.ntmps6
  go_upto_region 3 with fail
  clear k0 k1 k2
  go_loopw [3, 9] (fun v i wr => ∃ k : Nat, k ≤ u.funcs.length ∧ i = .int .i64 k ∧ (∃ y cc, v = .slice y k cc) ∧ kSg.own 33 wr (Own (w.heap.size + 1) v) (w.heap.size + 1) v ((u.funcs.take k).map (sigOf u.name)) ∧ wr.heap[w.heap.size]? = some (unO u.name a1 u.imports.length c1 a2 u.funcs.length c2) ∧ Below w.heap.size w wr) (fun _ i _ => u.funcs.length - (intOf i).toNat)
  case atStart => exact ⟨0, Nat.zero_le _, rfl, ⟨none, 0, rfl⟩, kSg.own_none _ _ _ _, HX0.out, HB0.out⟩
  case round =>
    obtain ⟨k, hk, rfl, ⟨y, cc, rfl⟩, hown, hx, hbl⟩ := hrel
    obtain ⟨k0, k1, k2, _, _, _⟩ := cells3 hx
    have HO : Hid _ := hown
    have HX : Hid _ := hx
    have HB : Hid _ := hbl
    by_cases hlt : k < u.funcs.length
    · have hrow : Sh.kFu.row wr S a2 u.funcs := Sh.kFu.row_mono (by show 0 < 9; omega) h fun b hb hlt => ⟨hb, hbl.block b hlt⟩
      obtain ⟨b, q, name, params, sec, body, kk, mm, oo, nn, ls, b1, d1, b2, d2, b3, d3, rfl, hfe, hb, ⟨e0, e1, e2, e3, e4, e5, e6, e7, e8⟩, hd3, hpr, _, _⟩ := Sh.lfu_at hrow k hlt
      have hpl := hp _ (List.getElem_mem hlt)
      have hT := sigs_take u.name u.funcs k hlt
      rw [hfe] at hpl hT
      obtain ⟨hpl, hnl⟩ := hpl
      have hpl : params.length ≤ 1000000 := hpl
      have hnl : name.length ≤ 1000000 := hnl
      have hz1 : (bs u.name).size + 1 ≤ 9223372036854775807 := by rw [bs_size]; omega
      have hz2 : (bs u.name).size + 1 + (bs name).size ≤ 9223372036854775807 := by rw [bs_size, bs_size]; omega
      have hk1 : (k : Int) < (u.funcs.length : Int) := by omega
      have d0 : ∀ o : Obj, (wr.alloc o).cell? ⟨w.heap.size, 0, none⟩ = some (.string (bs u.name)) := fun o => alloc_cell o k0
      have HT : Hid _ := hT
      have HPR : Hid _ := hpr
      clear hown hx hbl hrow hb hfe hT hpr
      go_upto_region 5 with fail
      obtain ⟨xs, ho, hlay⟩ := HO.out
      have hvl := kSg.own_lt HO.out
      have hlen : ((u.funcs.take k).map (sigOf u.name)).length = k := by rw [List.length_map, List.length_take, Nat.min_eq_left hk]
      rw [hlen] at ho
      have hx5 := heap_alloc_new wr (fuO name b1 params.length d1 sec b2 body.length d2 kk mm oo nn b3 ls.length d3)
      have hb5 := bl_alloc (Below.refl wr.heap.size wr) (fuO name b1 params.length d1 sec b2 body.length d2 kk mm oo nn b3 ls.length d3)
      have hz5 : wr.heap.size < (wr.alloc (fuO name b1 params.length d1 sec b2 body.length d2 kk mm oo nn b3 ls.length d3)).heap.size := by simp
      clear e0 e1 e2 e3 e4 e5 e6 e7 e8 d0 k0 k1 k2
      generalize wr.alloc (fuO name b1 params.length d1 sec b2 body.length d2 kk mm oo nn b3 ls.length d3) = w5 at hx5 hb5 hz5 ⊢
      have hu5 := (hb5.block _ (lt_of_some HX.out)).trans HX.out
      obtain ⟨q0, q1, q2, q3⟩ := four_fu hx5
      obtain ⟨u0, u1, u2, _, _, _⟩ := cells3 hu5
      have hXne : wr.heap.size ≠ w.heap.size := by have := lt_of_some HX.out; omega
      have HCC : Hid (∀ W : World, (∀ b, b = w.heap.size ∨ b = wr.heap.size → W.heap[b]? = w5.heap[b]?) → (W.cell? ⟨w.heap.size, 0, none⟩ = some (.string (bs u.name)) ∧ W.cell? ⟨wr.heap.size, 0, none⟩ = some (.string (bs name)) ∧ W.cell? ⟨wr.heap.size, 1, none⟩ = some (.slice b1 params.length d1) ∧ W.cell? ⟨wr.heap.size, 2, none⟩ = some (.bool sec))) := fun W hW =>
        ⟨(World.cell?_of_block (hW _ (.inl rfl))).trans u0, (World.cell?_of_block (hW _ (.inr rfl))).trans q0, (World.cell?_of_block (hW _ (.inr rfl))).trans q1, (World.cell?_of_block (hW _ (.inr rfl))).trans q2⟩
      have HD0 : Hid _ := HCC.out w5.drew fun b _ => rfl
      have hty := fun W (hW : Below w5.heap.size w5 W) => types_any (S := S) W b1 params d1 (Sh.kPa.row_mono (by show 0 < 3; omega) HPR.out fun b hb hlt => ⟨hb, (hW.block b (by have := hb5.size; omega)).trans (hb5.block b hlt)⟩) hpl
      have hd5 : Below w5.heap.size w5 w5.drew := ⟨rfl, rfl, rfl, Nat.le_refl _, fun _ _ => rfl⟩
      have hty0 := hty w5.drew hd5
      have hcat := name_cat u.name name
      have HW5 : Hid (w5.heap.size = w5.drew.heap.size) := rfl
      have HLA : Hid _ := hlay
      have HVL : Hid _ := hvl
      have HOO : Hid _ := ho
      have HB5 : Hid _ := hb5
      have HZ5 : Hid _ := hz5
      have hwx := lt_of_some HX.out
      have HLT : Hid (∀ b, b = w.heap.size ∨ b = wr.heap.size → b < w5.drew.heap.size) := fun b hb => by
        show b < w5.heap.size
        rcases hb with e | e <;> omega
      clear hlay hvl ho hb5 hx5 hu5 q0 q1 q2 q3 u0 u1 u2 hty
      have hz1' : ¬ 9223372036854775807 < (bs u.name).size + 1 := by omega
      have hz2' : ¬ 9223372036854775807 < (bs u.name).size + 1 + (bs name).size := by omega
      go_region_held3 (fun W : World => (W.cell? ⟨w.heap.size, 0, none⟩ = some (.string (bs u.name)) ∧ W.cell? ⟨wr.heap.size, 0, none⟩ = some (.string (bs name)) ∧ W.cell? ⟨wr.heap.size, 1, none⟩ = some (.slice b1 params.length d1) ∧ W.cell? ⟨wr.heap.size, 2, none⟩ = some (.bool sec)))
        (first | assumption | with_reducible exact HD0.out | with_reducible exact HC6.out _ | with_reducible exact HC7.out | go_keep)
        (first
          | (go_at_call 15; refine hty0.mono ?_; rintro e w6 ⟨⟨v6, rfl, ya, yc, rfl, hyr, hyc⟩, hb6⟩; have HC6 : Hid (∀ W : World, (∀ b, b = w.heap.size ∨ b = wr.heap.size → W.heap[b]? = w6.heap[b]?) → (W.cell? ⟨w.heap.size, 0, none⟩ = some (.string (bs u.name)) ∧ W.cell? ⟨wr.heap.size, 0, none⟩ = some (.string (bs name)) ∧ W.cell? ⟨wr.heap.size, 1, none⟩ = some (.slice b1 params.length d1) ∧ W.cell? ⟨wr.heap.size, 2, none⟩ = some (.bool sec))) := (fun W hW => HCC.out W fun b hb => (hW b hb).trans (hb6.block b (HLT.out b hb))); have HC6 : Hid (w6.cell? ⟨w.heap.size, 0, none⟩ = some (.string (bs u.name)) ∧ w6.cell? ⟨wr.heap.size, 0, none⟩ = some (.string (bs name)) ∧ w6.cell? ⟨wr.heap.size, 1, none⟩ = some (.slice b1 params.length d1) ∧ w6.cell? ⟨wr.heap.size, 2, none⟩ = some (.bool sec)) := HC6.out w6 (fun _ _ => rfl); have hz6 : w.heap.size + 1 ≤ w6.heap.size := (Nat.le_trans (HLT.out _ (.inl rfl)) hb6.size))
          | (refine step_append_src sg_info rfl Tryd.underlying28 (by decide) (by rfl) _ _ (by rfl) (w.heap.size + 1) (.slice y k cc) k xs (by rfl) (sig_own HOO.out HB5.out hb6 _) (.slice (some ⟨w6.heap.size, 0, none⟩) 1 1) 1 [.string (bs (u.name ++ 46 :: name)), .slice ya (tysL params).length yc, .bool sec] (by rfl) (src_blk _ _ _ Tryd.underlying28 _ 3 _ rfl rfl (by simp [Value.oneCell'])) (by omega) (by simp; omega) ?_; intro y7 c7 w7 hown7 hgrow7 hat7; have HC7 : Hid (w7.cell? ⟨w.heap.size, 0, none⟩ = some (.string (bs u.name)) ∧ w7.cell? ⟨wr.heap.size, 0, none⟩ = some (.string (bs name)) ∧ w7.cell? ⟨wr.heap.size, 1, none⟩ = some (.slice b1 params.length d1) ∧ w7.cell? ⟨wr.heap.size, 2, none⟩ = some (.bool sec)) := (HCC.out w7 (sig_keep HVL.out HLT.out hb6 hgrow7))))
      all_goals
        have hN := sigs_push HLA.out HVL.out HB5.out HZ5.out hb6 hyr hyc hown7 hgrow7 hat7 (sg := sigOf u.name ⟨name, params, sec, body, .mk kk mm oo nn ls⟩) hlen rfl rfl rfl (by omega)
        rw [← HT.out] at hN
        have HN : Hid _ := hN
        have HX7 : Hid (w7.heap[w.heap.size]? = some (unO u.name a1 u.imports.length c1 (some ⟨b, q, none⟩) u.funcs.length c2)) := (sig_keep HVL.out HLT.out hb6 hgrow7 _ (.inl rfl)).trans ((HB5.out.block _ (lt_of_some HX.out)).trans HX.out)
        have HB7 : Hid (Below w.heap.size w w7) := sigs_below HB.out HVL.out HB5.out hb6 hgrow7
        clear hown7 hgrow7 hat7 hN hyr hyc hb6 hty0 HC6 HC7
        go_wp2_with fail
        go_roundw
        case rel => exact ⟨k + 1, by omega, by go_num, ⟨_, _, rfl⟩, HN.out, HX7.out, HB7.out⟩
        case measure => simp [intOf]; omega
    · obtain rfl : k = u.funcs.length := by omega
      rw [List.take_length] at HO
      have hrd : kSg.rd wr (fun b => w.heap.size ≤ b) (.slice y (sigsL u).length cc) (sigsL u) := by
        have h1 := HO.out
        have e : (.slice y u.funcs.length cc : Value) = .slice y (sigsL u).length cc := by rw [sigsL_len]
        rw [e] at h1
        exact kSg.own_rd h1 (fun b hb => by have := hb.1; omega) fun g hg => by have := (kSg.own_lt h1 g hg).1; omega
      rw [sigsL_len] at hrd
      have HR : Hid _ := hrd
      clear hown hx hbl hrd k0 k1 k2
      go_wp2_with fail
      go_ret
      exact ⟨⟨_, rfl, HR.out⟩, HB.out⟩
end Go.Proofs.YtlagadofiahijaaDoor
