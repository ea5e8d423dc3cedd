/- Texts of this proof, put together: TFr, TParts, TReadE, TSm, TStB. -/
import Derived.Test.YtbpdhegfdmppgaaGreatDoorM31
import Derived.Test.YtbpdhegfdmppgaaGreatDoorM32

/- WHERE A READER'S CALL IS: what is left of its list, and the two blocks of its own in which its result lies, and what becomes it. -/
namespace Go.Proofs.YtbpdhegfdmppgaaGreatDoor
open Go.ChangeShapes Go.WideShapes Go.ChangeAt Go.RowKit

structure Rg (B : Nat) (w w' : World) (r : Nat) (l : List Nd) (p : Int) (T : TypeId) (R : Nat) (rc : Array Value) (X : Nat) (xc : Array Value) : Prop where
  kept : Kept (fun k => k = r) w w'
  rs : Rs B w' r l p
  res : w'.heap[R]? = some (.cells rc T (0, 0))
  x : w'.heap[X]? = some (.cells xc T (0, 0))
  hR : w.heap.size ≤ R
  hX : w.heap.size ≤ X
  ne : R ≠ X
  old : r < w.heap.size

section
variable {B : Nat} {w w' : World} {r : Nat} {l : List Nd} {p : Int} {T : TypeId} {R : Nat} {rc : Array Value} {X : Nat} {xc : Array Value}
theorem Rg.cell (h : Rg B w w' r l p T R rc X xc) (i : Nat) : w'.cell? ⟨X, i, none⟩ = xc[i]? := by simp [World.cell?, h.x]
theorem Rg.free (h : Rg B w w' r l p T R rc X xc) (i : Nat) : w'.frozen? ⟨X, i, none⟩ = false := by simp [World.frozen?, h.x]
theorem Rg.rcell (h : Rg B w w' r l p T R rc X xc) (i : Nat) : w'.cell? ⟨R, i, none⟩ = rc[i]? := by simp [World.cell?, h.res]
theorem Rg.rfree (h : Rg B w w' r l p T R rc X xc) (i : Nat) : w'.frozen? ⟨R, i, none⟩ = false := by simp [World.frozen?, h.res]
theorem Rg.lt (h : Rg B w w' r l p T R rc X xc) : X < w'.heap.size := lt_of_some h.x
theorem Rg.rlt (h : Rg B w w' r l p T R rc X xc) : R < w'.heap.size := lt_of_some h.res
theorem Rg.set (h : Rg B w w' r l p T R rc X xc) (i : Nat) (v : Value) {xc' : Array Value} (e : xc.setIfInBounds i v = xc') : Rg B w (w'.setCell ⟨X, i, none⟩ v) r l p T R rc X xc' where
  kept := h.kept.set_new _ _ _ h.hX
  rs := h.rs.keep (Kept.set w' X i v) (fun k e => by have := h.hX; have := h.rs.own; have := h.old; omega) (by have := h.hX; have := h.old; omega)
  res := by rw [setCell_other h.ne]; exact h.res
  x := by rw [setCell_at h.x, e]
  hR := h.hR
  hX := h.hX
  ne := h.ne
  old := h.old
theorem Rg.step (h : Rg B w w' r l p T R rc X xc) {w'' : World} {l' : List Nd} (hk : Kept (fun k => k = r) w' w'') (hr : Rs B w'' r l' p) : Rg B w w'' r l' p T R rc X xc where
  kept := h.kept.trans hk
  rs := hr
  res := keep_box h.res hk (by have := h.hR; have := h.old; omega)
  x := keep_box h.x hk (by have := h.hX; have := h.old; omega)
  hR := h.hR
  hX := h.hX
  ne := h.ne
  old := h.old
theorem Rg.below (h : Rg B w w' r l p T R rc X xc) {w'' : World} (hb : Below w'.heap.size w' w'') : Rg B w w'' r l p T R rc X xc := h.step (Below.kept hb _) (h.rs.below hb)
/-- When the call begins. -/
theorem Rg.start (h : Rs B w r l p) (T : TypeId) (rc xc : Array Value) : Rg B w ((w.alloc (.cells rc T)).alloc (.cells xc T)) r l p T w.heap.size rc (w.heap.size + 1) xc where
  kept := ((Kept.refl _ w).alloc_r _).alloc_r _
  rs := h.below (two_below w _ _)
  res := (two_at w _ _).1
  x := (two_at w _ _).2
  hR := Nat.le_refl _
  hX := by omega
  ne := by omega
  old := h.lt
end
end Go.Proofs.YtbpdhegfdmppgaaGreatDoor

/- CONTRACT of readParts: the expression that a list is, where readExpr's holds of smaller nodes. -/
namespace Go.Proofs.YtbpdhegfdmppgaaGreatDoor
open Go.ChangeShapes Go.WideShapes Go.ChangeAt Go.RowKit

theorem Left.takes {α : Type} {B : Nat} {w w' : World} {r : Nat} {p : Int} {val : α → Value} {res : Res (α × List Nd)} {e : Ending} (h : Left B w r p val res e w') : Takes (fun _ _ v x => v = val x) B w r p res e w' :=
  ⟨h.kept, fun x l' hr => ⟨h.rest x l' hr, val x, by rw [h.ends, hr]; rfl, rfl⟩, fun c q hr => by rw [h.ends, hr]; rfl⟩
theorem name_tk {B : Nat} {w : World} {r : Nat} {l : List Nd} {p : Int} (h : Rs B w r l p) : Calls Tryz.prog 58 #[.pointer (some ⟨r, 0, none⟩)] w (Takes (fun _ _ v x => v = .string (bs x)) B w r p (rdBy rdNameOf p l)) :=
  (name_rs h).mono fun _ _ h => h.takes
theorem full_tk {B : Nat} {w : World} {r : Nat} {l : List Nd} {p : Int} (h : Rs B w r l p) : Calls Tryz.prog 132 #[.pointer (some ⟨r, 0, none⟩)] w (Takes (fun _ _ v x => v = .string (bs x)) B w r p (rdBy rdFullOf p l)) :=
  (full_rs h).mono fun _ _ h => h.takes
theorem label_tk {B : Nat} {w : World} {r : Nat} {l : List Nd} {p : Int} (h : Rs B w r l p) : Calls Tryz.prog 97 #[.pointer (some ⟨r, 0, none⟩)] w (Takes (fun _ _ v x => v = .bool x) B w r p (rdBy rdLabelOf p l)) :=
  (label_rs h).mono fun _ _ h => h.takes
theorem within_tk {B : Nat} {w : World} {r : Nat} {l : List Nd} {p : Int} (lo hi : Nat) (h : Rs B w r l p) : Calls Tryz.prog 116 #[.pointer (some ⟨r, 0, none⟩), .int .u32 lo, .int .u32 hi] w (Takes (fun _ _ v (x : Nat) => v = .int .i64 (x : Int)) B w r p (rdBy (rdWithinOf lo hi) p l)) :=
  (within_rs lo hi h).mono fun _ _ h => h.takes
theorem end_tk {B : Nat} {w : World} {r : Nat} {l : List Nd} {p : Int} (h : Rs B w r l p) : Calls Tryz.prog 59 #[.pointer (some ⟨r, 0, none⟩)] w (Takes (fun _ _ v (_ : Unit) => v = .tuple #[]) B w r p ((rdEnd l).bind fun x => .ok (x, []))) := by
  refine (end_rs h).mono ?_
  rintro e w' ⟨rfl, hb⟩
  cases l with
  | nil => exact .ofOk rfl (Below.kept hb _) (h.below hb) rfl
  | cons n l => exact .ofBad rfl (Below.kept hb _)
theorem end_nil {l l' : List Nd} {u : Unit} (h : ((rdEnd l).bind fun y => Res.ok (y, ([] : List Nd))) = .ok (u, l')) : l' = [] := by
  cases l with
  | nil => cases h; rfl
  | cons n l => cases h
theorem ofz_bs (l : List UInt8) : W.ofz (bs l) = opOf l := by
  have key : ∀ m : List UInt8, (bs l = bs m) = (l = m) := fun m => propext ⟨bs_inj, fun e => by rw [e]⟩
  show (if bs l = bs [43] then (1 : Int) else if bs l = bs [45] then 2 else if bs l = bs [42] then 3 else if bs l = bs [38] then 4 else if bs l = bs [124] then 5 else if bs l = bs [94] then 6 else if bs l = bs [60, 60] then 7 else if bs l = bs [62, 62] then 8 else if bs l = bs [60] then 9 else if bs l = bs [61, 61] then 10 else 0) = _
  simp only [key]
  rfl
theorem opOf_range (l : List UInt8) : 0 ≤ opOf l ∧ opOf l ≤ 10 := by
  unfold opOf
  repeat' split
  all_goals omega
theorem of_bs (l : List UInt8) (w : World) : Calls Tryz.prog 25 #[.string (bs l)] w fun e w' => e = .returned (.tuple #[.int .i64 (opOf l), .bool (decide (opOf l ≠ 0))]) ∧ Below w.heap.size w w' := by
  refine (W.of_any (bs l) w).mono ?_
  rintro e w' ⟨rfl, hb⟩
  have h1 := opOf_range l
  have h2 : W.opb (opOf l) = decide (opOf l ≠ 0) := by simp only [W.opb, decide_eq_decide]; omega
  rw [ofz_bs, h2]
  exact ⟨rfl, hb⟩

theorem parts_at {p : Int} {n : Nd} {r : List Nd} (h : rdText n = .ok [97, 116]) : rdParts p (n :: r) = (rdBy rdNameOf p r).bind fun a => (rdN p 1 a.2).bind fun x => ((rdEnd x.2).bind fun y => .ok (y, ([] : List Nd))).bind fun _ => .ok (.mk 3 0 0 a.1 x.1) := by
  rw [rdParts.eq_def]
  simp only [h]
  simp only [Res.bind_ok, if_true]
  cases r with
  | nil => rfl
  | cons m r =>
    simp only [rdBy, rdNext, Res.bind_ok, Res.bind_assoc]
theorem parts_sel {p : Int} {n : Nd} {r : List Nd} (h : rdText n = .ok [115, 101, 108]) : rdParts p (n :: r) = (rdN p 3 r).bind fun x => ((rdEnd x.2).bind fun y => .ok (y, ([] : List Nd))).bind fun _ => .ok (.mk 5 0 0 [] x.1) := by
  rw [rdParts.eq_def]
  simp only [h]
  simp [Res.bind_assoc]
theorem parts_call {p : Int} {n : Nd} {r : List Nd} (h : rdText n = .ok [99, 97, 108, 108]) : rdParts p (n :: r) = (rdBy rdFullOf p r).bind fun a => ((rdArgs 0 a.2).bind fun x => .ok (x, ([] : List Nd))).bind fun x => ((rdEnd x.2).bind fun y => .ok (y, ([] : List Nd))).bind fun _ => .ok (.mk 6 0 0 a.1 x.1) := by
  rw [rdParts.eq_def]
  simp only [h]
  simp only [Res.bind_ok, show ([99, 97, 108, 108] : List UInt8) ≠ [97, 116] by decide, show ([99, 97, 108, 108] : List UInt8) ≠ [115, 101, 108] by decide, if_true, if_false]
  cases r with
  | nil => rfl
  | cons m r => simp only [rdBy, rdNext, Res.bind_ok, Res.bind_assoc, rdEnd]
theorem parts_op {p : Int} {n : Nd} {r : List Nd} {s : List UInt8} (h : rdText n = .ok s) (h1 : s ≠ [97, 116]) (h2 : s ≠ [115, 101, 108]) (h3 : s ≠ [99, 97, 108, 108]) (h4 : opOf s ≠ 0) : rdParts p (n :: r) = (rdN p 2 r).bind fun x => ((rdEnd x.2).bind fun y => .ok (y, ([] : List Nd))).bind fun _ => .ok (.mk 4 0 (opOf s) [] x.1) := by
  rw [rdParts.eq_def]
  simp only [h]
  simp only [Res.bind_ok, h1, h2, h3, h4, if_false, Res.bind_assoc]
theorem parts_none {p : Int} {n : Nd} {r : List Nd} {s : List UInt8} (h : rdText n = .ok s) (h1 : s ≠ [97, 116]) (h2 : s ≠ [115, 101, 108]) (h3 : s ≠ [99, 97, 108, 108]) (h4 : opOf s = 0) : rdParts p (n :: r) = .bad 6 n.pos := by
  rw [rdParts.eq_def]
  simp only [h]
  simp only [Res.bind_ok, h1, h2, h3, h4, if_false, if_true]

set_option maxHeartbeats 6400000 in
set_option maxRecDepth 10000 in
theorem parts_rs {m B : Nat} {w : World} {r : Nat} {l : List Nd} {p : Int} (hE : ExprN m) (h : Rs B w r l p) (hs : szL l ≤ m) :
    Calls Tryz.prog 123 #[.pointer (some ⟨r, 0, none⟩)] w (Takes ExV B w r p ((rdParts p l).bind fun x => .ok (x, []))) := by
  have hlt := h.lt
  have hB := h.own
  cases l with
  | nil =>
    go_enter Tryz.func123, Tryz.ntmps123
    go_wp2_with (go_at_call 56; refine (next_bad (Rg.start h 45 #[.int .i64 0, .int .u32 0, .int .i64 0, .string ⟨#[]⟩, .slice none 0 0] #[.int .i64 0, .int .u32 0, .int .i64 0, .string ⟨#[]⟩, .slice none 0 0]).rs).mono ?_; rintro e w1 ⟨rfl, hb1⟩)
    exact ⟨rfl, .ofBad rfl (((Rg.start h 45 #[.int .i64 0, .int .u32 0, .int .i64 0, .string ⟨#[]⟩, .slice none 0 0] #[.int .i64 0, .int .u32 0, .int .i64 0, .string ⟨#[]⟩, .slice none 0 0]).kept).on hb1)⟩
  | cons nd l =>
    obtain ⟨il, wd, ks, q⟩ := nd
    have hwl : wd.length ≤ 1000000000 := h.wok.1.1
    have hszl : szL l ≤ m := by simp only [szL] at hs; omega
    cases ht : rdText (.mk il wd ks q) with
    | bad x y =>
      have HT : Hid (rdText (.mk il wd ks q) = .bad x y) := ht
      have HP : Hid (rdParts p (.mk il wd ks q :: l) = .bad x y) := by show _ = _; rw [rdParts.eq_def]; simp only [ht, Res.bind_bad]
      clear ht
      go_enter Tryz.func123, Tryz.ntmps123
      go_wp2_with (first | (go_at_call 56; refine (next_ok il wd ks q (Rg.start h 45 #[.int .i64 0, .int .u32 0, .int .i64 0, .string ⟨#[]⟩, .slice none 0 0] #[.int .i64 0, .int .u32 0, .int .i64 0, .string ⟨#[]⟩, .slice none 0 0]).rs).mono ?_; rintro e w1 ⟨a, c, rfl, hrow, hcap, hR1, hK1⟩) | (go_at_call 94; refine (text_bs il wd ks q _ _ _).mono ?_; rw [HT.out]; simp only [endOf]; rintro e w2 ⟨rfl, hb2⟩))
      exact ⟨rfl, .ofBad (by rw [HP.out]; rfl) (((Rg.start h 45 #[.int .i64 0, .int .u32 0, .int .i64 0, .string ⟨#[]⟩, .slice none 0 0] #[.int .i64 0, .int .u32 0, .int .i64 0, .string ⟨#[]⟩, .slice none 0 0]).step hK1 hR1).kept.on (below_out hb2))⟩
    | ok s =>
      have HT : Hid (rdText (.mk il wd ks q) = .ok s) := ht
      have hts : (bs s).toList = s := by rw [ByteArray.toList_eq, bs_list]
      by_cases hat : s = [97, 116]
      · subst hat
        have HSP : Hid _ := parts_at (p := p) (r := l) ht
        have hts' : (bs [97, 116]).toList = [97, 116] := hts
        clear ht hts
        cases hr3 : rdBy rdNameOf p l with
        | bad x y =>
          have HR3 : Hid (rdBy rdNameOf p l = .bad x y) := hr3
          clear hr3
          go_enter Tryz.func123, Tryz.ntmps123
          go_wp2_with (first | (go_at_call 56; refine (next_ok il wd ks q (Rg.start h 45 #[.int .i64 0, .int .u32 0, .int .i64 0, .string ⟨#[]⟩, .slice none 0 0] #[.int .i64 0, .int .u32 0, .int .i64 0, .string ⟨#[]⟩, .slice none 0 0]).rs).mono ?_; rintro e w1 ⟨a, c, rfl, hrow, hcap, hR1, hK1⟩) | (go_at_call 94; refine (text_bs il wd ks q _ _ _).mono ?_; rw [HT.out]; simp only [endOf, sval]; rintro e w2 ⟨rfl, hb2⟩; have hn2 := below_box hb2; obtain ⟨b20, b21, b22, b23⟩ := cells4 hn2; have hf2 := ((Rg.start h 45 #[.int .i64 0, .int .u32 0, .int .i64 0, .string ⟨#[]⟩, .slice none 0 0] #[.int .i64 0, .int .u32 0, .int .i64 0, .string ⟨#[]⟩, .slice none 0 0]).step hK1 hR1).below (below_out hb2); have c2 := hf2.cell; have z2 := hf2.free; have s2 := hf2.lt; have rc2 := hf2.rcell; have rz2 := hf2.rfree; have rs2 := hf2.rlt) | (go_at_call 58; refine (name_tk (hf2.set 0 (.int .i64 3) (xc' := #[.int .i64 3, .int .u32 0, .int .i64 0, .string ⟨#[]⟩, .slice none 0 0]) rfl).rs).mono ?_; rintro e w3 hG3; obtain rfl := hG3.bad _ _ HR3.out))
          exact ⟨rfl, .ofBad (by simp only [HSP.out, HR3.out, Res.bind_bad]) ((hf2.set 0 (.int .i64 3) (xc' := #[.int .i64 3, .int .u32 0, .int .i64 0, .string ⟨#[]⟩, .slice none 0 0]) rfl).kept.trans hG3.kept)⟩
        | ok y3 =>
          obtain ⟨t3, l3⟩ := y3
          have HR3 : Hid (rdBy rdNameOf p l = .ok (t3, l3)) := hr3
          have hsz3 := (rdBy_sz hr3).1
          clear hr3
          cases hr4 : rdN p 1 l3 with
          | bad x y =>
            have HR4 : Hid (rdN p 1 l3 = .bad x y) := hr4
            clear hr4
            go_enter Tryz.func123, Tryz.ntmps123
            go_wp2_with (first | (go_at_call 56; refine (next_ok il wd ks q (Rg.start h 45 #[.int .i64 0, .int .u32 0, .int .i64 0, .string ⟨#[]⟩, .slice none 0 0] #[.int .i64 0, .int .u32 0, .int .i64 0, .string ⟨#[]⟩, .slice none 0 0]).rs).mono ?_; rintro e w1 ⟨a, c, rfl, hrow, hcap, hR1, hK1⟩) | (go_at_call 94; refine (text_bs il wd ks q _ _ _).mono ?_; rw [HT.out]; simp only [endOf, sval]; rintro e w2 ⟨rfl, hb2⟩; have hn2 := below_box hb2; obtain ⟨b20, b21, b22, b23⟩ := cells4 hn2; have hf2 := ((Rg.start h 45 #[.int .i64 0, .int .u32 0, .int .i64 0, .string ⟨#[]⟩, .slice none 0 0] #[.int .i64 0, .int .u32 0, .int .i64 0, .string ⟨#[]⟩, .slice none 0 0]).step hK1 hR1).below (below_out hb2); have c2 := hf2.cell; have z2 := hf2.free; have s2 := hf2.lt; have rc2 := hf2.rcell; have rz2 := hf2.rfree; have rs2 := hf2.rlt) | (go_at_call 58; refine (name_tk (hf2.set 0 (.int .i64 3) (xc' := #[.int .i64 3, .int .u32 0, .int .i64 0, .string ⟨#[]⟩, .slice none 0 0]) rfl).rs).mono ?_; rintro e w3 hG3; obtain ⟨hRs3, v3, rfl, rfl⟩ := hG3.ok _ _ HR3.out; have hf3 := (hf2.set 0 (.int .i64 3) (xc' := #[.int .i64 3, .int .u32 0, .int .i64 0, .string ⟨#[]⟩, .slice none 0 0]) rfl).step hG3.kept hRs3; have c3 := hf3.cell; have z3 := hf3.free; have s3 := hf3.lt; have rc3 := hf3.rcell; have rz3 := hf3.rfree; have rs3 := hf3.rlt) | (go_at_call 131; refine (exprs_rs 1 hE (by omega) (hf3.set 3 (.string (bs t3)) (xc' := #[.int .i64 3, .int .u32 0, .int .i64 0, .string (bs t3), .slice none 0 0]) rfl).rs (by omega)).mono ?_; rintro e w4 hG4; obtain rfl := hG4.bad _ _ HR4.out))
            exact ⟨rfl, .ofBad (by simp only [HSP.out, HR3.out, HR4.out, Res.bind_ok, Res.bind_bad]) ((hf3.set 3 (.string (bs t3)) (xc' := #[.int .i64 3, .int .u32 0, .int .i64 0, .string (bs t3), .slice none 0 0]) rfl).kept.trans hG4.kept)⟩
          | ok y4 =>
            obtain ⟨xl, l4⟩ := y4
            have HR4 : Hid (rdN p 1 l3 = .ok (xl, l4)) := hr4
            clear hr4
            cases hr5 : ((rdEnd l4).bind fun y => Res.ok (y, ([] : List Nd))) with
            | bad x y =>
              have HR5 : Hid (((rdEnd l4).bind fun y => Res.ok (y, ([] : List Nd))) = .bad x y) := hr5
              clear hr5
              go_enter Tryz.func123, Tryz.ntmps123
              go_wp2_with (first | (go_at_call 56; refine (next_ok il wd ks q (Rg.start h 45 #[.int .i64 0, .int .u32 0, .int .i64 0, .string ⟨#[]⟩, .slice none 0 0] #[.int .i64 0, .int .u32 0, .int .i64 0, .string ⟨#[]⟩, .slice none 0 0]).rs).mono ?_; rintro e w1 ⟨a, c, rfl, hrow, hcap, hR1, hK1⟩) | (go_at_call 94; refine (text_bs il wd ks q _ _ _).mono ?_; rw [HT.out]; simp only [endOf, sval]; rintro e w2 ⟨rfl, hb2⟩; have hn2 := below_box hb2; obtain ⟨b20, b21, b22, b23⟩ := cells4 hn2; have hf2 := ((Rg.start h 45 #[.int .i64 0, .int .u32 0, .int .i64 0, .string ⟨#[]⟩, .slice none 0 0] #[.int .i64 0, .int .u32 0, .int .i64 0, .string ⟨#[]⟩, .slice none 0 0]).step hK1 hR1).below (below_out hb2); have c2 := hf2.cell; have z2 := hf2.free; have s2 := hf2.lt; have rc2 := hf2.rcell; have rz2 := hf2.rfree; have rs2 := hf2.rlt) | (go_at_call 58; refine (name_tk (hf2.set 0 (.int .i64 3) (xc' := #[.int .i64 3, .int .u32 0, .int .i64 0, .string ⟨#[]⟩, .slice none 0 0]) rfl).rs).mono ?_; rintro e w3 hG3; obtain ⟨hRs3, v3, rfl, rfl⟩ := hG3.ok _ _ HR3.out; have hf3 := (hf2.set 0 (.int .i64 3) (xc' := #[.int .i64 3, .int .u32 0, .int .i64 0, .string ⟨#[]⟩, .slice none 0 0]) rfl).step hG3.kept hRs3; have c3 := hf3.cell; have z3 := hf3.free; have s3 := hf3.lt; have rc3 := hf3.rcell; have rz3 := hf3.rfree; have rs3 := hf3.rlt) | (go_at_call 131; refine (exprs_rs 1 hE (by omega) (hf3.set 3 (.string (bs t3)) (xc' := #[.int .i64 3, .int .u32 0, .int .i64 0, .string (bs t3), .slice none 0 0]) rfl).rs (by omega)).mono ?_; rintro e w4 hG4; obtain ⟨hRs4, v4, rfl, va, vc, rfl, hxr, hcp⟩ := hG4.ok _ _ HR4.out; have hf4 := (hf3.set 3 (.string (bs t3)) (xc' := #[.int .i64 3, .int .u32 0, .int .i64 0, .string (bs t3), .slice none 0 0]) rfl).step hG4.kept hRs4; have c4 := hf4.cell; have z4 := hf4.free; have s4 := hf4.lt; have rc4 := hf4.rcell; have rz4 := hf4.rfree; have rs4 := hf4.rlt) | (go_at_call 59; refine (end_tk (hf4.set 4 (.slice va xl.length vc) (xc' := #[.int .i64 3, .int .u32 0, .int .i64 0, .string (bs t3), .slice va xl.length vc]) rfl).rs).mono ?_; rintro e w5 hG5; obtain rfl := hG5.bad _ _ HR5.out))
              exact ⟨rfl, .ofBad (by simp only [HSP.out, HR3.out, HR4.out, HR5.out, Res.bind_ok, Res.bind_bad]) ((hf4.set 4 (.slice va xl.length vc) (xc' := #[.int .i64 3, .int .u32 0, .int .i64 0, .string (bs t3), .slice va xl.length vc]) rfl).kept.trans hG5.kept)⟩
            | ok y5 =>
              obtain ⟨u5, l5⟩ := y5
              have HR5 : Hid (((rdEnd l4).bind fun y => Res.ok (y, ([] : List Nd))) = .ok (u5, l5)) := hr5
              obtain rfl := end_nil hr5
              clear hr5
              go_enter Tryz.func123, Tryz.ntmps123
              go_wp2_with (first | (go_at_call 56; refine (next_ok il wd ks q (Rg.start h 45 #[.int .i64 0, .int .u32 0, .int .i64 0, .string ⟨#[]⟩, .slice none 0 0] #[.int .i64 0, .int .u32 0, .int .i64 0, .string ⟨#[]⟩, .slice none 0 0]).rs).mono ?_; rintro e w1 ⟨a, c, rfl, hrow, hcap, hR1, hK1⟩) | (go_at_call 94; refine (text_bs il wd ks q _ _ _).mono ?_; rw [HT.out]; simp only [endOf, sval]; rintro e w2 ⟨rfl, hb2⟩; have hn2 := below_box hb2; obtain ⟨b20, b21, b22, b23⟩ := cells4 hn2; have hf2 := ((Rg.start h 45 #[.int .i64 0, .int .u32 0, .int .i64 0, .string ⟨#[]⟩, .slice none 0 0] #[.int .i64 0, .int .u32 0, .int .i64 0, .string ⟨#[]⟩, .slice none 0 0]).step hK1 hR1).below (below_out hb2); have c2 := hf2.cell; have z2 := hf2.free; have s2 := hf2.lt; have rc2 := hf2.rcell; have rz2 := hf2.rfree; have rs2 := hf2.rlt) | (go_at_call 58; refine (name_tk (hf2.set 0 (.int .i64 3) (xc' := #[.int .i64 3, .int .u32 0, .int .i64 0, .string ⟨#[]⟩, .slice none 0 0]) rfl).rs).mono ?_; rintro e w3 hG3; obtain ⟨hRs3, v3, rfl, rfl⟩ := hG3.ok _ _ HR3.out; have hf3 := (hf2.set 0 (.int .i64 3) (xc' := #[.int .i64 3, .int .u32 0, .int .i64 0, .string ⟨#[]⟩, .slice none 0 0]) rfl).step hG3.kept hRs3; have c3 := hf3.cell; have z3 := hf3.free; have s3 := hf3.lt; have rc3 := hf3.rcell; have rz3 := hf3.rfree; have rs3 := hf3.rlt) | (go_at_call 131; refine (exprs_rs 1 hE (by omega) (hf3.set 3 (.string (bs t3)) (xc' := #[.int .i64 3, .int .u32 0, .int .i64 0, .string (bs t3), .slice none 0 0]) rfl).rs (by omega)).mono ?_; rintro e w4 hG4; obtain ⟨hRs4, v4, rfl, va, vc, rfl, hxr, hcp⟩ := hG4.ok _ _ HR4.out; have hf4 := (hf3.set 3 (.string (bs t3)) (xc' := #[.int .i64 3, .int .u32 0, .int .i64 0, .string (bs t3), .slice none 0 0]) rfl).step hG4.kept hRs4; have c4 := hf4.cell; have z4 := hf4.free; have s4 := hf4.lt; have rc4 := hf4.rcell; have rz4 := hf4.rfree; have rs4 := hf4.rlt) | (go_at_call 59; refine (end_tk (hf4.set 4 (.slice va xl.length vc) (xc' := #[.int .i64 3, .int .u32 0, .int .i64 0, .string (bs t3), .slice va xl.length vc]) rfl).rs).mono ?_; rintro e w5 hG5; obtain ⟨hRs5, v5, rfl, rfl⟩ := hG5.ok _ _ HR5.out; have hf5 := (hf4.set 4 (.slice va xl.length vc) (xc' := #[.int .i64 3, .int .u32 0, .int .i64 0, .string (bs t3), .slice va xl.length vc]) rfl).step hG5.kept hRs5; have c5 := hf5.cell; have z5 := hf5.free; have s5 := hf5.lt; have rc5 := hf5.rcell; have rz5 := hf5.rfree; have rs5 := hf5.rlt))
              obtain ⟨hEn, hKw, hKb⟩ := set5_all (M := fun k => k = r) (.int .i64 3) (.int .u32 0) (.int .i64 0) (.string (bs t3)) (.slice va xl.length vc) hf5.res hf5.kept (Nat.le_refl _)
              generalize World.setCell _ _ _ = W at hEn hKw hKb ⊢
              refine bodyPost_ret_by (v := .agg #[.int .i64 3, .int .u32 0, .int .i64 0, .string (bs t3), .slice va xl.length vc]) (results5 Tryz.results123 rfl hEn) rfl ?_
              refine .ofOk (x := Ex.mk 3 0 0 t3 xl) (l := []) (by simp only [HSP.out, HR3.out, HR4.out, HR5.out, Res.bind_ok]) hKw (hf5.rs.keep hKb (fun k e => by omega) (by omega)) ⟨_, _, rfl, hcp, ?_⟩
              refine exR_mono (fun b hb hl => ?_) ((exR_row _ _ _ _).2 hxr)
              have hb' : w3.heap.size ≤ b := by simpa [World.setCell] using hb
              have hl' : b < (w4.setCell ⟨w.heap.size + 1, 4, none⟩ (.slice va xl.length vc)).heap.size := by simpa [World.setCell] using hl
              exact ⟨by omega, by rw [hKb.block b (Nat.lt_of_lt_of_le hl' hG5.kept.size) (by omega), hG5.kept.block b hl' (by omega), setCell_other (by omega)]⟩
      · by_cases hsel : s = [115, 101, 108]
        · subst hsel
          have HSP : Hid _ := parts_sel (p := p) (r := l) ht
          have hts' : (bs [115, 101, 108]).toList = [115, 101, 108] := hts
          clear ht hts hat
          cases hr3 : rdN p 3 l with
          | bad x y =>
            have HR3 : Hid (rdN p 3 l = .bad x y) := hr3
            clear hr3
            go_enter Tryz.func123, Tryz.ntmps123
            go_wp2_with (first | (go_at_call 56; refine (next_ok il wd ks q (Rg.start h 45 #[.int .i64 0, .int .u32 0, .int .i64 0, .string ⟨#[]⟩, .slice none 0 0] #[.int .i64 0, .int .u32 0, .int .i64 0, .string ⟨#[]⟩, .slice none 0 0]).rs).mono ?_; rintro e w1 ⟨a, c, rfl, hrow, hcap, hR1, hK1⟩) | (go_at_call 94; refine (text_bs il wd ks q _ _ _).mono ?_; rw [HT.out]; simp only [endOf, sval]; rintro e w2 ⟨rfl, hb2⟩; have hn2 := below_box hb2; obtain ⟨b20, b21, b22, b23⟩ := cells4 hn2; have hf2 := ((Rg.start h 45 #[.int .i64 0, .int .u32 0, .int .i64 0, .string ⟨#[]⟩, .slice none 0 0] #[.int .i64 0, .int .u32 0, .int .i64 0, .string ⟨#[]⟩, .slice none 0 0]).step hK1 hR1).below (below_out hb2); have c2 := hf2.cell; have z2 := hf2.free; have s2 := hf2.lt; have rc2 := hf2.rcell; have rz2 := hf2.rfree; have rs2 := hf2.rlt) | (go_at_call 131; refine (exprs_rs 3 hE (by omega) (hf2.set 0 (.int .i64 5) (xc' := #[.int .i64 5, .int .u32 0, .int .i64 0, .string ⟨#[]⟩, .slice none 0 0]) rfl).rs (by omega)).mono ?_; rintro e w3 hG3; obtain rfl := hG3.bad _ _ HR3.out))
            exact ⟨rfl, .ofBad (by simp only [HSP.out, HR3.out, Res.bind_bad]) ((hf2.set 0 (.int .i64 5) (xc' := #[.int .i64 5, .int .u32 0, .int .i64 0, .string ⟨#[]⟩, .slice none 0 0]) rfl).kept.trans hG3.kept)⟩
          | ok y3 =>
            obtain ⟨xl, l3⟩ := y3
            have HR3 : Hid (rdN p 3 l = .ok (xl, l3)) := hr3
            clear hr3
            cases hr4 : ((rdEnd l3).bind fun y => Res.ok (y, ([] : List Nd))) with
            | bad x y =>
              have HR4 : Hid (((rdEnd l3).bind fun y => Res.ok (y, ([] : List Nd))) = .bad x y) := hr4
              clear hr4
              go_enter Tryz.func123, Tryz.ntmps123
              go_wp2_with (first | (go_at_call 56; refine (next_ok il wd ks q (Rg.start h 45 #[.int .i64 0, .int .u32 0, .int .i64 0, .string ⟨#[]⟩, .slice none 0 0] #[.int .i64 0, .int .u32 0, .int .i64 0, .string ⟨#[]⟩, .slice none 0 0]).rs).mono ?_; rintro e w1 ⟨a, c, rfl, hrow, hcap, hR1, hK1⟩) | (go_at_call 94; refine (text_bs il wd ks q _ _ _).mono ?_; rw [HT.out]; simp only [endOf, sval]; rintro e w2 ⟨rfl, hb2⟩; have hn2 := below_box hb2; obtain ⟨b20, b21, b22, b23⟩ := cells4 hn2; have hf2 := ((Rg.start h 45 #[.int .i64 0, .int .u32 0, .int .i64 0, .string ⟨#[]⟩, .slice none 0 0] #[.int .i64 0, .int .u32 0, .int .i64 0, .string ⟨#[]⟩, .slice none 0 0]).step hK1 hR1).below (below_out hb2); have c2 := hf2.cell; have z2 := hf2.free; have s2 := hf2.lt; have rc2 := hf2.rcell; have rz2 := hf2.rfree; have rs2 := hf2.rlt) | (go_at_call 131; refine (exprs_rs 3 hE (by omega) (hf2.set 0 (.int .i64 5) (xc' := #[.int .i64 5, .int .u32 0, .int .i64 0, .string ⟨#[]⟩, .slice none 0 0]) rfl).rs (by omega)).mono ?_; rintro e w3 hG3; obtain ⟨hRs3, v3, rfl, va, vc, rfl, hxr, hcp⟩ := hG3.ok _ _ HR3.out; have hf3 := (hf2.set 0 (.int .i64 5) (xc' := #[.int .i64 5, .int .u32 0, .int .i64 0, .string ⟨#[]⟩, .slice none 0 0]) rfl).step hG3.kept hRs3; have c3 := hf3.cell; have z3 := hf3.free; have s3 := hf3.lt; have rc3 := hf3.rcell; have rz3 := hf3.rfree; have rs3 := hf3.rlt) | (go_at_call 59; refine (end_tk (hf3.set 4 (.slice va xl.length vc) (xc' := #[.int .i64 5, .int .u32 0, .int .i64 0, .string ⟨#[]⟩, .slice va xl.length vc]) rfl).rs).mono ?_; rintro e w4 hG4; obtain rfl := hG4.bad _ _ HR4.out))
              exact ⟨rfl, .ofBad (by simp only [HSP.out, HR3.out, HR4.out, Res.bind_ok, Res.bind_bad]) ((hf3.set 4 (.slice va xl.length vc) (xc' := #[.int .i64 5, .int .u32 0, .int .i64 0, .string ⟨#[]⟩, .slice va xl.length vc]) rfl).kept.trans hG4.kept)⟩
            | ok y4 =>
              obtain ⟨u4, l4⟩ := y4
              have HR4 : Hid (((rdEnd l3).bind fun y => Res.ok (y, ([] : List Nd))) = .ok (u4, l4)) := hr4
              obtain rfl := end_nil hr4
              clear hr4
              go_enter Tryz.func123, Tryz.ntmps123
              go_wp2_with (first | (go_at_call 56; refine (next_ok il wd ks q (Rg.start h 45 #[.int .i64 0, .int .u32 0, .int .i64 0, .string ⟨#[]⟩, .slice none 0 0] #[.int .i64 0, .int .u32 0, .int .i64 0, .string ⟨#[]⟩, .slice none 0 0]).rs).mono ?_; rintro e w1 ⟨a, c, rfl, hrow, hcap, hR1, hK1⟩) | (go_at_call 94; refine (text_bs il wd ks q _ _ _).mono ?_; rw [HT.out]; simp only [endOf, sval]; rintro e w2 ⟨rfl, hb2⟩; have hn2 := below_box hb2; obtain ⟨b20, b21, b22, b23⟩ := cells4 hn2; have hf2 := ((Rg.start h 45 #[.int .i64 0, .int .u32 0, .int .i64 0, .string ⟨#[]⟩, .slice none 0 0] #[.int .i64 0, .int .u32 0, .int .i64 0, .string ⟨#[]⟩, .slice none 0 0]).step hK1 hR1).below (below_out hb2); have c2 := hf2.cell; have z2 := hf2.free; have s2 := hf2.lt; have rc2 := hf2.rcell; have rz2 := hf2.rfree; have rs2 := hf2.rlt) | (go_at_call 131; refine (exprs_rs 3 hE (by omega) (hf2.set 0 (.int .i64 5) (xc' := #[.int .i64 5, .int .u32 0, .int .i64 0, .string ⟨#[]⟩, .slice none 0 0]) rfl).rs (by omega)).mono ?_; rintro e w3 hG3; obtain ⟨hRs3, v3, rfl, va, vc, rfl, hxr, hcp⟩ := hG3.ok _ _ HR3.out; have hf3 := (hf2.set 0 (.int .i64 5) (xc' := #[.int .i64 5, .int .u32 0, .int .i64 0, .string ⟨#[]⟩, .slice none 0 0]) rfl).step hG3.kept hRs3; have c3 := hf3.cell; have z3 := hf3.free; have s3 := hf3.lt; have rc3 := hf3.rcell; have rz3 := hf3.rfree; have rs3 := hf3.rlt) | (go_at_call 59; refine (end_tk (hf3.set 4 (.slice va xl.length vc) (xc' := #[.int .i64 5, .int .u32 0, .int .i64 0, .string ⟨#[]⟩, .slice va xl.length vc]) rfl).rs).mono ?_; rintro e w4 hG4; obtain ⟨hRs4, v4, rfl, rfl⟩ := hG4.ok _ _ HR4.out; have hf4 := (hf3.set 4 (.slice va xl.length vc) (xc' := #[.int .i64 5, .int .u32 0, .int .i64 0, .string ⟨#[]⟩, .slice va xl.length vc]) rfl).step hG4.kept hRs4; have c4 := hf4.cell; have z4 := hf4.free; have s4 := hf4.lt; have rc4 := hf4.rcell; have rz4 := hf4.rfree; have rs4 := hf4.rlt))
              obtain ⟨hEn, hKw, hKb⟩ := set5_all (M := fun k => k = r) (.int .i64 5) (.int .u32 0) (.int .i64 0) (.string ⟨#[]⟩) (.slice va xl.length vc) hf4.res hf4.kept (Nat.le_refl _)
              generalize World.setCell _ _ _ = W at hEn hKw hKb ⊢
              refine bodyPost_ret_by (v := .agg #[.int .i64 5, .int .u32 0, .int .i64 0, .string ⟨#[]⟩, .slice va xl.length vc]) (results5 Tryz.results123 rfl hEn) rfl ?_
              refine .ofOk (x := Ex.mk 5 0 0 [] xl) (l := []) (by simp only [HSP.out, HR3.out, HR4.out, Res.bind_ok]) hKw (hf4.rs.keep hKb (fun k e => by omega) (by omega)) ⟨_, _, rfl, hcp, ?_⟩
              refine exR_mono (fun b hb hl => ?_) ((exR_row _ _ _ _).2 hxr)
              have hb' : w2.heap.size ≤ b := by simpa [World.setCell] using hb
              have hl' : b < (w3.setCell ⟨w.heap.size + 1, 4, none⟩ (.slice va xl.length vc)).heap.size := by simpa [World.setCell] using hl
              exact ⟨by omega, by rw [hKb.block b (Nat.lt_of_lt_of_le hl' hG4.kept.size) (by omega), hG4.kept.block b hl' (by omega), setCell_other (by omega)]⟩
        · by_cases hcall : s = [99, 97, 108, 108]
          · subst hcall
            have HSP : Hid _ := parts_call (p := p) (r := l) ht
            have hts' : (bs [99, 97, 108, 108]).toList = [99, 97, 108, 108] := hts
            clear ht hts hat hsel
            cases hr3 : rdBy rdFullOf p l with
            | bad x y =>
              have HR3 : Hid (rdBy rdFullOf p l = .bad x y) := hr3
              clear hr3
              go_enter Tryz.func123, Tryz.ntmps123
              go_wp2_with (first | (go_at_call 56; refine (next_ok il wd ks q (Rg.start h 45 #[.int .i64 0, .int .u32 0, .int .i64 0, .string ⟨#[]⟩, .slice none 0 0] #[.int .i64 0, .int .u32 0, .int .i64 0, .string ⟨#[]⟩, .slice none 0 0]).rs).mono ?_; rintro e w1 ⟨a, c, rfl, hrow, hcap, hR1, hK1⟩) | (go_at_call 94; refine (text_bs il wd ks q _ _ _).mono ?_; rw [HT.out]; simp only [endOf, sval]; rintro e w2 ⟨rfl, hb2⟩; have hn2 := below_box hb2; obtain ⟨b20, b21, b22, b23⟩ := cells4 hn2; have hf2 := ((Rg.start h 45 #[.int .i64 0, .int .u32 0, .int .i64 0, .string ⟨#[]⟩, .slice none 0 0] #[.int .i64 0, .int .u32 0, .int .i64 0, .string ⟨#[]⟩, .slice none 0 0]).step hK1 hR1).below (below_out hb2); have c2 := hf2.cell; have z2 := hf2.free; have s2 := hf2.lt; have rc2 := hf2.rcell; have rz2 := hf2.rfree; have rs2 := hf2.rlt) | (go_at_call 132; refine (full_tk (hf2.set 0 (.int .i64 6) (xc' := #[.int .i64 6, .int .u32 0, .int .i64 0, .string ⟨#[]⟩, .slice none 0 0]) rfl).rs).mono ?_; rintro e w3 hG3; obtain rfl := hG3.bad _ _ HR3.out))
              exact ⟨rfl, .ofBad (by simp only [HSP.out, HR3.out, Res.bind_bad]) ((hf2.set 0 (.int .i64 6) (xc' := #[.int .i64 6, .int .u32 0, .int .i64 0, .string ⟨#[]⟩, .slice none 0 0]) rfl).kept.trans hG3.kept)⟩
            | ok y3 =>
              obtain ⟨t3, l3⟩ := y3
              have HR3 : Hid (rdBy rdFullOf p l = .ok (t3, l3)) := hr3
              have hsz3 := (rdBy_sz hr3).1
              clear hr3
              cases hr4 : ((rdArgs 0 l3).bind fun x => Res.ok (x, ([] : List Nd))) with
              | bad x y =>
                have HR4 : Hid (((rdArgs 0 l3).bind fun x => Res.ok (x, ([] : List Nd))) = .bad x y) := hr4
                clear hr4
                go_enter Tryz.func123, Tryz.ntmps123
                go_wp2_with (first | (go_at_call 56; refine (next_ok il wd ks q (Rg.start h 45 #[.int .i64 0, .int .u32 0, .int .i64 0, .string ⟨#[]⟩, .slice none 0 0] #[.int .i64 0, .int .u32 0, .int .i64 0, .string ⟨#[]⟩, .slice none 0 0]).rs).mono ?_; rintro e w1 ⟨a, c, rfl, hrow, hcap, hR1, hK1⟩) | (go_at_call 94; refine (text_bs il wd ks q _ _ _).mono ?_; rw [HT.out]; simp only [endOf, sval]; rintro e w2 ⟨rfl, hb2⟩; have hn2 := below_box hb2; obtain ⟨b20, b21, b22, b23⟩ := cells4 hn2; have hf2 := ((Rg.start h 45 #[.int .i64 0, .int .u32 0, .int .i64 0, .string ⟨#[]⟩, .slice none 0 0] #[.int .i64 0, .int .u32 0, .int .i64 0, .string ⟨#[]⟩, .slice none 0 0]).step hK1 hR1).below (below_out hb2); have c2 := hf2.cell; have z2 := hf2.free; have s2 := hf2.lt; have rc2 := hf2.rcell; have rz2 := hf2.rfree; have rs2 := hf2.rlt) | (go_at_call 132; refine (full_tk (hf2.set 0 (.int .i64 6) (xc' := #[.int .i64 6, .int .u32 0, .int .i64 0, .string ⟨#[]⟩, .slice none 0 0]) rfl).rs).mono ?_; rintro e w3 hG3; obtain ⟨hRs3, v3, rfl, rfl⟩ := hG3.ok _ _ HR3.out; have hf3 := (hf2.set 0 (.int .i64 6) (xc' := #[.int .i64 6, .int .u32 0, .int .i64 0, .string ⟨#[]⟩, .slice none 0 0]) rfl).step hG3.kept hRs3; have c3 := hf3.cell; have z3 := hf3.free; have s3 := hf3.lt; have rc3 := hf3.rcell; have rz3 := hf3.rfree; have rs3 := hf3.rlt) | (go_at_call 133; refine (args_rs hE (hf3.set 3 (.string (bs t3)) (xc' := #[.int .i64 6, .int .u32 0, .int .i64 0, .string (bs t3), .slice none 0 0]) rfl).rs (by omega)).mono ?_; rintro e w4 hG4; obtain rfl := hG4.bad _ _ HR4.out))
                exact ⟨rfl, .ofBad (by simp only [HSP.out, HR3.out, HR4.out, Res.bind_ok, Res.bind_bad]) ((hf3.set 3 (.string (bs t3)) (xc' := #[.int .i64 6, .int .u32 0, .int .i64 0, .string (bs t3), .slice none 0 0]) rfl).kept.trans hG4.kept)⟩
              | ok y4 =>
                obtain ⟨xl, l4⟩ := y4
                have HR4 : Hid (((rdArgs 0 l3).bind fun x => Res.ok (x, ([] : List Nd))) = .ok (xl, l4)) := hr4
                clear hr4
                cases hr5 : ((rdEnd l4).bind fun y => Res.ok (y, ([] : List Nd))) with
                | bad x y =>
                  have HR5 : Hid (((rdEnd l4).bind fun y => Res.ok (y, ([] : List Nd))) = .bad x y) := hr5
                  clear hr5
                  go_enter Tryz.func123, Tryz.ntmps123
                  go_wp2_with (first | (go_at_call 56; refine (next_ok il wd ks q (Rg.start h 45 #[.int .i64 0, .int .u32 0, .int .i64 0, .string ⟨#[]⟩, .slice none 0 0] #[.int .i64 0, .int .u32 0, .int .i64 0, .string ⟨#[]⟩, .slice none 0 0]).rs).mono ?_; rintro e w1 ⟨a, c, rfl, hrow, hcap, hR1, hK1⟩) | (go_at_call 94; refine (text_bs il wd ks q _ _ _).mono ?_; rw [HT.out]; simp only [endOf, sval]; rintro e w2 ⟨rfl, hb2⟩; have hn2 := below_box hb2; obtain ⟨b20, b21, b22, b23⟩ := cells4 hn2; have hf2 := ((Rg.start h 45 #[.int .i64 0, .int .u32 0, .int .i64 0, .string ⟨#[]⟩, .slice none 0 0] #[.int .i64 0, .int .u32 0, .int .i64 0, .string ⟨#[]⟩, .slice none 0 0]).step hK1 hR1).below (below_out hb2); have c2 := hf2.cell; have z2 := hf2.free; have s2 := hf2.lt; have rc2 := hf2.rcell; have rz2 := hf2.rfree; have rs2 := hf2.rlt) | (go_at_call 132; refine (full_tk (hf2.set 0 (.int .i64 6) (xc' := #[.int .i64 6, .int .u32 0, .int .i64 0, .string ⟨#[]⟩, .slice none 0 0]) rfl).rs).mono ?_; rintro e w3 hG3; obtain ⟨hRs3, v3, rfl, rfl⟩ := hG3.ok _ _ HR3.out; have hf3 := (hf2.set 0 (.int .i64 6) (xc' := #[.int .i64 6, .int .u32 0, .int .i64 0, .string ⟨#[]⟩, .slice none 0 0]) rfl).step hG3.kept hRs3; have c3 := hf3.cell; have z3 := hf3.free; have s3 := hf3.lt; have rc3 := hf3.rcell; have rz3 := hf3.rfree; have rs3 := hf3.rlt) | (go_at_call 133; refine (args_rs hE (hf3.set 3 (.string (bs t3)) (xc' := #[.int .i64 6, .int .u32 0, .int .i64 0, .string (bs t3), .slice none 0 0]) rfl).rs (by omega)).mono ?_; rintro e w4 hG4; obtain ⟨hRs4, v4, rfl, va, vc, rfl, hxr, hcp⟩ := hG4.ok _ _ HR4.out; have hf4 := (hf3.set 3 (.string (bs t3)) (xc' := #[.int .i64 6, .int .u32 0, .int .i64 0, .string (bs t3), .slice none 0 0]) rfl).step hG4.kept hRs4; have c4 := hf4.cell; have z4 := hf4.free; have s4 := hf4.lt; have rc4 := hf4.rcell; have rz4 := hf4.rfree; have rs4 := hf4.rlt) | (go_at_call 59; refine (end_tk (hf4.set 4 (.slice va xl.length vc) (xc' := #[.int .i64 6, .int .u32 0, .int .i64 0, .string (bs t3), .slice va xl.length vc]) rfl).rs).mono ?_; rintro e w5 hG5; obtain rfl := hG5.bad _ _ HR5.out))
                  exact ⟨rfl, .ofBad (by simp only [HSP.out, HR3.out, HR4.out, HR5.out, Res.bind_ok, Res.bind_bad]) ((hf4.set 4 (.slice va xl.length vc) (xc' := #[.int .i64 6, .int .u32 0, .int .i64 0, .string (bs t3), .slice va xl.length vc]) rfl).kept.trans hG5.kept)⟩
                | ok y5 =>
                  obtain ⟨u5, l5⟩ := y5
                  have HR5 : Hid (((rdEnd l4).bind fun y => Res.ok (y, ([] : List Nd))) = .ok (u5, l5)) := hr5
                  obtain rfl := end_nil hr5
                  clear hr5
                  go_enter Tryz.func123, Tryz.ntmps123
                  go_wp2_with (first | (go_at_call 56; refine (next_ok il wd ks q (Rg.start h 45 #[.int .i64 0, .int .u32 0, .int .i64 0, .string ⟨#[]⟩, .slice none 0 0] #[.int .i64 0, .int .u32 0, .int .i64 0, .string ⟨#[]⟩, .slice none 0 0]).rs).mono ?_; rintro e w1 ⟨a, c, rfl, hrow, hcap, hR1, hK1⟩) | (go_at_call 94; refine (text_bs il wd ks q _ _ _).mono ?_; rw [HT.out]; simp only [endOf, sval]; rintro e w2 ⟨rfl, hb2⟩; have hn2 := below_box hb2; obtain ⟨b20, b21, b22, b23⟩ := cells4 hn2; have hf2 := ((Rg.start h 45 #[.int .i64 0, .int .u32 0, .int .i64 0, .string ⟨#[]⟩, .slice none 0 0] #[.int .i64 0, .int .u32 0, .int .i64 0, .string ⟨#[]⟩, .slice none 0 0]).step hK1 hR1).below (below_out hb2); have c2 := hf2.cell; have z2 := hf2.free; have s2 := hf2.lt; have rc2 := hf2.rcell; have rz2 := hf2.rfree; have rs2 := hf2.rlt) | (go_at_call 132; refine (full_tk (hf2.set 0 (.int .i64 6) (xc' := #[.int .i64 6, .int .u32 0, .int .i64 0, .string ⟨#[]⟩, .slice none 0 0]) rfl).rs).mono ?_; rintro e w3 hG3; obtain ⟨hRs3, v3, rfl, rfl⟩ := hG3.ok _ _ HR3.out; have hf3 := (hf2.set 0 (.int .i64 6) (xc' := #[.int .i64 6, .int .u32 0, .int .i64 0, .string ⟨#[]⟩, .slice none 0 0]) rfl).step hG3.kept hRs3; have c3 := hf3.cell; have z3 := hf3.free; have s3 := hf3.lt; have rc3 := hf3.rcell; have rz3 := hf3.rfree; have rs3 := hf3.rlt) | (go_at_call 133; refine (args_rs hE (hf3.set 3 (.string (bs t3)) (xc' := #[.int .i64 6, .int .u32 0, .int .i64 0, .string (bs t3), .slice none 0 0]) rfl).rs (by omega)).mono ?_; rintro e w4 hG4; obtain ⟨hRs4, v4, rfl, va, vc, rfl, hxr, hcp⟩ := hG4.ok _ _ HR4.out; have hf4 := (hf3.set 3 (.string (bs t3)) (xc' := #[.int .i64 6, .int .u32 0, .int .i64 0, .string (bs t3), .slice none 0 0]) rfl).step hG4.kept hRs4; have c4 := hf4.cell; have z4 := hf4.free; have s4 := hf4.lt; have rc4 := hf4.rcell; have rz4 := hf4.rfree; have rs4 := hf4.rlt) | (go_at_call 59; refine (end_tk (hf4.set 4 (.slice va xl.length vc) (xc' := #[.int .i64 6, .int .u32 0, .int .i64 0, .string (bs t3), .slice va xl.length vc]) rfl).rs).mono ?_; rintro e w5 hG5; obtain ⟨hRs5, v5, rfl, rfl⟩ := hG5.ok _ _ HR5.out; have hf5 := (hf4.set 4 (.slice va xl.length vc) (xc' := #[.int .i64 6, .int .u32 0, .int .i64 0, .string (bs t3), .slice va xl.length vc]) rfl).step hG5.kept hRs5; have c5 := hf5.cell; have z5 := hf5.free; have s5 := hf5.lt; have rc5 := hf5.rcell; have rz5 := hf5.rfree; have rs5 := hf5.rlt))
                  obtain ⟨hEn, hKw, hKb⟩ := set5_all (M := fun k => k = r) (.int .i64 6) (.int .u32 0) (.int .i64 0) (.string (bs t3)) (.slice va xl.length vc) hf5.res hf5.kept (Nat.le_refl _)
                  generalize World.setCell _ _ _ = W at hEn hKw hKb ⊢
                  refine bodyPost_ret_by (v := .agg #[.int .i64 6, .int .u32 0, .int .i64 0, .string (bs t3), .slice va xl.length vc]) (results5 Tryz.results123 rfl hEn) rfl ?_
                  refine .ofOk (x := Ex.mk 6 0 0 t3 xl) (l := []) (by simp only [HSP.out, HR3.out, HR4.out, HR5.out, Res.bind_ok]) hKw (hf5.rs.keep hKb (fun k e => by omega) (by omega)) ⟨_, _, rfl, hcp, ?_⟩
                  refine exR_mono (fun b hb hl => ?_) ((exR_row _ _ _ _).2 hxr)
                  have hb' : w3.heap.size ≤ b := by simpa [World.setCell] using hb
                  have hl' : b < (w4.setCell ⟨w.heap.size + 1, 4, none⟩ (.slice va xl.length vc)).heap.size := by simpa [World.setCell] using hl
                  exact ⟨by omega, by rw [hKb.block b (Nat.lt_of_lt_of_le hl' hG5.kept.size) (by omega), hG5.kept.block b hl' (by omega), setCell_other (by omega)]⟩
          · have g1 : ¬ (bs s).toList = [97, 116] := by rw [hts]; exact hat
            have g2 : ¬ (bs s).toList = [115, 101, 108] := by rw [hts]; exact hsel
            have g3 : ¬ (bs s).toList = [99, 97, 108, 108] := by rw [hts]; exact hcall
            have k1 : ((bs s).toList == [97, 116]) = false := by simpa using g1
            have k2 : ((bs s).toList == [115, 101, 108]) = false := by simpa using g2
            have k3 : ((bs s).toList == [99, 97, 108, 108]) = false := by simpa using g3
            have hof := of_bs s
            by_cases hop : opOf s = 0
            · have HP : Hid _ := parts_none (p := p) (r := l) ht hat hsel hcall hop
              have hop' : decide (opOf s ≠ 0) = false := by simpa using hop
              rw [hop', hop] at hof
              clear ht hts hat hsel hcall hop hop'
              go_enter Tryz.func123, Tryz.ntmps123
              go_wp2_with (first | (go_at_call 56; refine (next_ok il wd ks q (Rg.start h 45 #[.int .i64 0, .int .u32 0, .int .i64 0, .string ⟨#[]⟩, .slice none 0 0] #[.int .i64 0, .int .u32 0, .int .i64 0, .string ⟨#[]⟩, .slice none 0 0]).rs).mono ?_; rintro e w1 ⟨a, c, rfl, hrow, hcap, hR1, hK1⟩) | (go_at_call 94; refine (text_bs il wd ks q _ _ _).mono ?_; rw [HT.out]; simp only [endOf, sval]; rintro e w2 ⟨rfl, hb2⟩; have hn2 := below_box hb2; obtain ⟨b20, b21, b22, b23⟩ := cells4 hn2; have hf2 := ((Rg.start h 45 #[.int .i64 0, .int .u32 0, .int .i64 0, .string ⟨#[]⟩, .slice none 0 0] #[.int .i64 0, .int .u32 0, .int .i64 0, .string ⟨#[]⟩, .slice none 0 0]).step hK1 hR1).below (below_out hb2); have c2 := hf2.cell; have z2 := hf2.free; have s2 := hf2.lt; have rc2 := hf2.rcell; have rz2 := hf2.rfree; have rs2 := hf2.rlt) | (go_at_call 25; refine (hof _).mono ?_; rintro e w3 ⟨rfl, hb3⟩; obtain ⟨b30, b31, b32, b33⟩ := cells4 (below_keep hn2 hb3)) | (go_at_call 92; refine (refuse_any _ _ _ _ _ _ _).mono ?_; rintro e w9 ⟨rfl, hb9⟩))
              exact ⟨rfl, .ofBad (by rw [HP.out]; rfl) ((hf2.kept.on hb3).on hb9)⟩
            · have HSP : Hid _ := parts_op (p := p) (r := l) ht hat hsel hcall hop
              have hop' : decide (opOf s ≠ 0) = true := by simpa using hop
              rw [hop'] at hof
              clear ht hts hat hsel hcall hop hop'
              generalize opOf s = oper at hof HSP
              cases hr4 : rdN p 2 l with
              | bad x y =>
                have HR4 : Hid (rdN p 2 l = .bad x y) := hr4
                clear hr4
                go_enter Tryz.func123, Tryz.ntmps123
                go_wp2_with (first | (go_at_call 56; refine (next_ok il wd ks q (Rg.start h 45 #[.int .i64 0, .int .u32 0, .int .i64 0, .string ⟨#[]⟩, .slice none 0 0] #[.int .i64 0, .int .u32 0, .int .i64 0, .string ⟨#[]⟩, .slice none 0 0]).rs).mono ?_; rintro e w1 ⟨a, c, rfl, hrow, hcap, hR1, hK1⟩) | (go_at_call 94; refine (text_bs il wd ks q _ _ _).mono ?_; rw [HT.out]; simp only [endOf, sval]; rintro e w2 ⟨rfl, hb2⟩; have hn2 := below_box hb2; obtain ⟨b20, b21, b22, b23⟩ := cells4 hn2; have hf2 := ((Rg.start h 45 #[.int .i64 0, .int .u32 0, .int .i64 0, .string ⟨#[]⟩, .slice none 0 0] #[.int .i64 0, .int .u32 0, .int .i64 0, .string ⟨#[]⟩, .slice none 0 0]).step hK1 hR1).below (below_out hb2); have c2 := hf2.cell; have z2 := hf2.free; have s2 := hf2.lt; have rc2 := hf2.rcell; have rz2 := hf2.rfree; have rs2 := hf2.rlt) | (go_at_call 25; refine (hof _).mono ?_; rintro e w3 ⟨rfl, hb3⟩; have hf3 := hf2.below hb3; have c3 := hf3.cell; have z3 := hf3.free; have s3 := hf3.lt; have rc3 := hf3.rcell; have rz3 := hf3.rfree; have rs3 := hf3.rlt) | (go_at_call 131; refine (exprs_rs 2 hE (by omega) ((hf3.set 0 (.int .i64 4) (xc' := #[.int .i64 4, .int .u32 0, .int .i64 0, .string ⟨#[]⟩, .slice none 0 0]) rfl).set 2 (.int .i64 oper) (xc' := #[.int .i64 4, .int .u32 0, .int .i64 oper, .string ⟨#[]⟩, .slice none 0 0]) rfl).rs (by omega)).mono ?_; rintro e w4 hG4; obtain rfl := hG4.bad _ _ HR4.out))
                exact ⟨rfl, .ofBad (by simp only [HSP.out, HR4.out, Res.bind_bad]) (((hf3.set 0 (.int .i64 4) (xc' := #[.int .i64 4, .int .u32 0, .int .i64 0, .string ⟨#[]⟩, .slice none 0 0]) rfl).set 2 (.int .i64 oper) (xc' := #[.int .i64 4, .int .u32 0, .int .i64 oper, .string ⟨#[]⟩, .slice none 0 0]) rfl).kept.trans hG4.kept)⟩
              | ok y4 =>
                obtain ⟨xl, l4⟩ := y4
                have HR4 : Hid (rdN p 2 l = .ok (xl, l4)) := hr4
                clear hr4
                cases hr5 : ((rdEnd l4).bind fun y => Res.ok (y, ([] : List Nd))) with
                | bad x y =>
                  have HR5 : Hid (((rdEnd l4).bind fun y => Res.ok (y, ([] : List Nd))) = .bad x y) := hr5
                  clear hr5
                  go_enter Tryz.func123, Tryz.ntmps123
                  go_wp2_with (first | (go_at_call 56; refine (next_ok il wd ks q (Rg.start h 45 #[.int .i64 0, .int .u32 0, .int .i64 0, .string ⟨#[]⟩, .slice none 0 0] #[.int .i64 0, .int .u32 0, .int .i64 0, .string ⟨#[]⟩, .slice none 0 0]).rs).mono ?_; rintro e w1 ⟨a, c, rfl, hrow, hcap, hR1, hK1⟩) | (go_at_call 94; refine (text_bs il wd ks q _ _ _).mono ?_; rw [HT.out]; simp only [endOf, sval]; rintro e w2 ⟨rfl, hb2⟩; have hn2 := below_box hb2; obtain ⟨b20, b21, b22, b23⟩ := cells4 hn2; have hf2 := ((Rg.start h 45 #[.int .i64 0, .int .u32 0, .int .i64 0, .string ⟨#[]⟩, .slice none 0 0] #[.int .i64 0, .int .u32 0, .int .i64 0, .string ⟨#[]⟩, .slice none 0 0]).step hK1 hR1).below (below_out hb2); have c2 := hf2.cell; have z2 := hf2.free; have s2 := hf2.lt; have rc2 := hf2.rcell; have rz2 := hf2.rfree; have rs2 := hf2.rlt) | (go_at_call 25; refine (hof _).mono ?_; rintro e w3 ⟨rfl, hb3⟩; have hf3 := hf2.below hb3; have c3 := hf3.cell; have z3 := hf3.free; have s3 := hf3.lt; have rc3 := hf3.rcell; have rz3 := hf3.rfree; have rs3 := hf3.rlt) | (go_at_call 131; refine (exprs_rs 2 hE (by omega) ((hf3.set 0 (.int .i64 4) (xc' := #[.int .i64 4, .int .u32 0, .int .i64 0, .string ⟨#[]⟩, .slice none 0 0]) rfl).set 2 (.int .i64 oper) (xc' := #[.int .i64 4, .int .u32 0, .int .i64 oper, .string ⟨#[]⟩, .slice none 0 0]) rfl).rs (by omega)).mono ?_; rintro e w4 hG4; obtain ⟨hRs4, v4, rfl, va, vc, rfl, hxr, hcp⟩ := hG4.ok _ _ HR4.out; have hf4 := ((hf3.set 0 (.int .i64 4) (xc' := #[.int .i64 4, .int .u32 0, .int .i64 0, .string ⟨#[]⟩, .slice none 0 0]) rfl).set 2 (.int .i64 oper) (xc' := #[.int .i64 4, .int .u32 0, .int .i64 oper, .string ⟨#[]⟩, .slice none 0 0]) rfl).step hG4.kept hRs4; have c4 := hf4.cell; have z4 := hf4.free; have s4 := hf4.lt; have rc4 := hf4.rcell; have rz4 := hf4.rfree; have rs4 := hf4.rlt) | (go_at_call 59; refine (end_tk (hf4.set 4 (.slice va xl.length vc) (xc' := #[.int .i64 4, .int .u32 0, .int .i64 oper, .string ⟨#[]⟩, .slice va xl.length vc]) rfl).rs).mono ?_; rintro e w5 hG5; obtain rfl := hG5.bad _ _ HR5.out))
                  exact ⟨rfl, .ofBad (by simp only [HSP.out, HR4.out, HR5.out, Res.bind_ok, Res.bind_bad]) ((hf4.set 4 (.slice va xl.length vc) (xc' := #[.int .i64 4, .int .u32 0, .int .i64 oper, .string ⟨#[]⟩, .slice va xl.length vc]) rfl).kept.trans hG5.kept)⟩
                | ok y5 =>
                  obtain ⟨u5, l5⟩ := y5
                  have HR5 : Hid (((rdEnd l4).bind fun y => Res.ok (y, ([] : List Nd))) = .ok (u5, l5)) := hr5
                  obtain rfl := end_nil hr5
                  clear hr5
                  go_enter Tryz.func123, Tryz.ntmps123
                  go_wp2_with (first | (go_at_call 56; refine (next_ok il wd ks q (Rg.start h 45 #[.int .i64 0, .int .u32 0, .int .i64 0, .string ⟨#[]⟩, .slice none 0 0] #[.int .i64 0, .int .u32 0, .int .i64 0, .string ⟨#[]⟩, .slice none 0 0]).rs).mono ?_; rintro e w1 ⟨a, c, rfl, hrow, hcap, hR1, hK1⟩) | (go_at_call 94; refine (text_bs il wd ks q _ _ _).mono ?_; rw [HT.out]; simp only [endOf, sval]; rintro e w2 ⟨rfl, hb2⟩; have hn2 := below_box hb2; obtain ⟨b20, b21, b22, b23⟩ := cells4 hn2; have hf2 := ((Rg.start h 45 #[.int .i64 0, .int .u32 0, .int .i64 0, .string ⟨#[]⟩, .slice none 0 0] #[.int .i64 0, .int .u32 0, .int .i64 0, .string ⟨#[]⟩, .slice none 0 0]).step hK1 hR1).below (below_out hb2); have c2 := hf2.cell; have z2 := hf2.free; have s2 := hf2.lt; have rc2 := hf2.rcell; have rz2 := hf2.rfree; have rs2 := hf2.rlt) | (go_at_call 25; refine (hof _).mono ?_; rintro e w3 ⟨rfl, hb3⟩; have hf3 := hf2.below hb3; have c3 := hf3.cell; have z3 := hf3.free; have s3 := hf3.lt; have rc3 := hf3.rcell; have rz3 := hf3.rfree; have rs3 := hf3.rlt) | (go_at_call 131; refine (exprs_rs 2 hE (by omega) ((hf3.set 0 (.int .i64 4) (xc' := #[.int .i64 4, .int .u32 0, .int .i64 0, .string ⟨#[]⟩, .slice none 0 0]) rfl).set 2 (.int .i64 oper) (xc' := #[.int .i64 4, .int .u32 0, .int .i64 oper, .string ⟨#[]⟩, .slice none 0 0]) rfl).rs (by omega)).mono ?_; rintro e w4 hG4; obtain ⟨hRs4, v4, rfl, va, vc, rfl, hxr, hcp⟩ := hG4.ok _ _ HR4.out; have hf4 := ((hf3.set 0 (.int .i64 4) (xc' := #[.int .i64 4, .int .u32 0, .int .i64 0, .string ⟨#[]⟩, .slice none 0 0]) rfl).set 2 (.int .i64 oper) (xc' := #[.int .i64 4, .int .u32 0, .int .i64 oper, .string ⟨#[]⟩, .slice none 0 0]) rfl).step hG4.kept hRs4; have c4 := hf4.cell; have z4 := hf4.free; have s4 := hf4.lt; have rc4 := hf4.rcell; have rz4 := hf4.rfree; have rs4 := hf4.rlt) | (go_at_call 59; refine (end_tk (hf4.set 4 (.slice va xl.length vc) (xc' := #[.int .i64 4, .int .u32 0, .int .i64 oper, .string ⟨#[]⟩, .slice va xl.length vc]) rfl).rs).mono ?_; rintro e w5 hG5; obtain ⟨hRs5, v5, rfl, rfl⟩ := hG5.ok _ _ HR5.out; have hf5 := (hf4.set 4 (.slice va xl.length vc) (xc' := #[.int .i64 4, .int .u32 0, .int .i64 oper, .string ⟨#[]⟩, .slice va xl.length vc]) rfl).step hG5.kept hRs5; have c5 := hf5.cell; have z5 := hf5.free; have s5 := hf5.lt; have rc5 := hf5.rcell; have rz5 := hf5.rfree; have rs5 := hf5.rlt))
                  obtain ⟨hEn, hKw, hKb⟩ := set5_all (M := fun k => k = r) (.int .i64 4) (.int .u32 0) (.int .i64 oper) (.string ⟨#[]⟩) (.slice va xl.length vc) hf5.res hf5.kept (Nat.le_refl _)
                  generalize World.setCell _ _ _ = W at hEn hKw hKb ⊢
                  refine bodyPost_ret_by (v := .agg #[.int .i64 4, .int .u32 0, .int .i64 oper, .string ⟨#[]⟩, .slice va xl.length vc]) (results5 Tryz.results123 rfl hEn) rfl ?_
                  refine .ofOk (x := Ex.mk 4 0 oper [] xl) (l := []) (by simp only [HSP.out, HR4.out, HR5.out, Res.bind_ok]) hKw (hf5.rs.keep hKb (fun k e => by omega) (by omega)) ⟨_, _, rfl, hcp, ?_⟩
                  refine exR_mono (fun b hb hl => ?_) ((exR_row _ _ _ _).2 hxr)
                  have hb' : w3.heap.size ≤ b := by simpa [World.setCell] using hb
                  have hl' : b < (w4.setCell ⟨w.heap.size + 1, 4, none⟩ (.slice va xl.length vc)).heap.size := by simpa [World.setCell] using hl
                  exact ⟨by omega, by rw [hKb.block b (Nat.lt_of_lt_of_le hl' hG5.kept.size) (by omega), hG5.kept.block b hl' (by omega), setCell_other (by omega)]⟩
end Go.Proofs.YtbpdhegfdmppgaaGreatDoor

/- CONTRACT of readExpr, for all nodes. -/
namespace Go.Proofs.YtbpdhegfdmppgaaGreatDoor
open Go.ChangeShapes Go.WideShapes Go.ChangeAt Go.RowKit

theorem exV_leaf (w : World) (S : Nat → Prop) (kind : Int) (n : Nat) (op : Int) (name : List UInt8) : ExV w S (.agg #[.int .i64 kind, .int .u32 n, .int .i64 op, .string (bs name), .slice none 0 0]) (.mk kind n op name []) :=
  ⟨none, 0, rfl, Nat.le_refl _, by rw [exR]; trivial⟩

set_option maxHeartbeats 1600000 in
theorem expr_list {m B : Nat} {w : World} (ks : List Nd) (q : Int) (a : Option Addr) (c : Nat) (hE : ExprN m) (hg : Glob B w) (hw : wokL ks) (hrow : Row (fun b => b < B) w a ks) (hc : ks.length ≤ c) (hs : szL ks ≤ m) :
    Calls Tryz.prog 115 #[.agg #[.bool true, .string ⟨#[]⟩, .slice a ks.length c, .int .i64 q]] w (Gives ExV w (rdParts q ks)) := by
  have hB := hg.le
  have hb0 := two_below w (.cells #[.bool true, .string ⟨#[]⟩, .slice a ks.length c, .int .i64 q] 66) (.cells #[.int .i64 0, .int .u32 0, .int .i64 0, .string ⟨#[]⟩, .slice none 0 0] 45)
  have hent := enter_ok (B := B) ks q a c (Nat.le_trans hB hb0.size) (hg.below hb0) hw (hrow.keep hb0) hc
  cases hr : rdParts q ks with
  | bad x y =>
    have HR : Hid ((rdParts q ks).bind (fun x => Res.ok (x, ([] : List Nd))) = .bad x y) := by show _ = _; rw [hr]; rfl
    clear hr
    go_enter Tryz.func115, Tryz.ntmps115
    go_wp2_with (first | (go_at_call 55; refine hent.mono ?_; rintro e w1 ⟨r1, rfl, hr1, hRs1, hb1⟩) | (go_at_call 123; refine (parts_rs hE hRs1 hs).mono ?_; rintro e w2 hG; obtain rfl := hG.bad _ _ HR.out))
    have hs0 := hb0.size
    exact ⟨rfl, .ofBad rfl (((Below.kept (Below.then hb0 hb1) (fun _ => False)).past hG.kept fun i e => by omega) |> none_below)⟩
  | ok x =>
    obtain ⟨kind, n, op, name, xl⟩ := x
    have HR : Hid ((rdParts q ks).bind (fun x => Res.ok (x, ([] : List Nd))) = .ok (.mk kind n op name xl, [])) := by show _ = _; rw [hr]; rfl
    clear hr
    go_enter Tryz.func115, Tryz.ntmps115
    go_wp2_with (first | (go_at_call 55; refine hent.mono ?_; rintro e w1 ⟨r1, rfl, hr1, hRs1, hb1⟩) | (go_at_call 123; refine (parts_rs hE hRs1 hs).mono ?_; rintro e w2 hG; obtain ⟨hRs2, v, rfl, va, vc, rfl, hvc, hvr⟩ := hG.ok _ _ HR.out; have x2 := keep_box (below_keep (two_at w _ _).2 hb1) hG.kept (by simp at hr1; omega); obtain ⟨y0, y1, y2, y3, y4, yz, ys⟩ := box5 x2))
    have hs0 := hb0.size
    have hs1 : w.heap.size + 1 < w1.heap.size := by have := hb1.size; simp at this; omega
    obtain ⟨hEn, hKw, hKb⟩ := set5_all (M := fun _ => False) (.int .i64 kind) (.int .u32 n) (.int .i64 op) (.string (bs name)) (.slice va xl.length vc) x2 ((Below.kept (Below.then hb0 hb1) (fun _ => False)).past hG.kept fun i e => by omega) (by omega)
    generalize World.setCell _ _ _ = W at hEn hKw hKb ⊢
    refine bodyPost_ret_by (results5 Tryz.results115 rfl hEn) rfl ?_
    exact .ofOk rfl (none_below hKw) ⟨va, vc, rfl, hvc, exR_mono (fun b hb hl => ⟨by omega, hKb.block b hl (by omega)⟩) hvr⟩

theorem readExpr_all : ∀ n, ExprN n := by
  intro n
  induction n using Nat.strongRecOn with
  | _ n ih =>
    intro B w il wd ks q a c hg hw hrow hc hsz
    obtain ⟨hwl, hwk⟩ := hw
    cases il with
    | false =>
      cases ks with
      | cons n l =>
        have e : rdE (.mk false wd (n :: l) q) = .bad 6 q := by rw [rdE]; rfl
        rw [e]
        refine (expr_kids wd q a l.length c w).mono ?_
        rintro e w' ⟨rfl, hb⟩
        exact .ofBad rfl hb
      | nil =>
        cases hn : num wd with
        | some v =>
          have e : rdE (.mk false wd [] q) = .ok (.mk 1 v 0 [] []) := by rw [rdE, hn]; rfl
          rw [e]
          refine (expr_num wd q a c v w hg hwl hn).mono ?_
          rintro e w' ⟨rfl, hb⟩
          exact .ofOk rfl hb (exV_leaf _ _ 1 v 0 [])
        | none =>
          cases hm : isName wd with
          | true =>
            have e : rdE (.mk false wd [] q) = .ok (.mk 2 0 0 wd []) := by rw [rdE, hn, hm]; rfl
            rw [e]
            refine (expr_name wd q a c w hg hwl hn hm).mono ?_
            rintro e w' ⟨rfl, hb⟩
            exact .ofOk rfl hb (exV_leaf _ _ 2 0 0 wd)
          | false =>
            have e : rdE (.mk false wd [] q) = .bad 6 q := by rw [rdE, hn, hm]; rfl
            rw [e]
            refine (expr_none wd q a c w hg hwl hn hm).mono ?_
            rintro e w' ⟨rfl, hb⟩
            exact .ofBad rfl hb
    | true =>
      cases wd with
      | cons x l =>
        have e : rdE (.mk true (x :: l) ks q) = .bad 6 q := by rw [rdE]; rfl
        rw [e]
        refine (expr_odd x l q a ks.length c w).mono ?_
        rintro e w' ⟨rfl, hb⟩
        exact .ofBad rfl hb
      | nil =>
        have e : rdE (.mk true [] ks q) = rdParts q ks := by rw [rdE]; rfl
        rw [e]
        simp only [Nd.sz] at hsz
        exact expr_list ks q a c (ih (szL ks) (by omega)) hg hwk hrow hc (Nat.le_refl _)
theorem expr_tk {B : Nat} {w : World} {r : Nat} {l : List Nd} {p : Int} (h : Rs B w r l p) : Calls Tryz.prog 98 #[.pointer (some ⟨r, 0, none⟩)] w (Takes ExV B w r p (rdBy rdE p l)) := expr_rs (readExpr_all (szL l)) h (Nat.le_refl _)
end Go.Proofs.YtbpdhegfdmppgaaGreatDoor

/- STATEMENTS in memory: 18 cells each. -/
namespace Go.Proofs.YtbpdhegfdmppgaaGreatDoor
open Go.ChangeShapes Go.WideShapes Go.ChangeAt Go.RowKit

mutual
def smC (w : World) (S : Nat → Prop) : List Value → Sm → Prop
  | cs, .mk kind name sec len fr to (.mk k1 n1 o1 m1 l1) (.mk k2 n2 o2 m2 l2) body els => ∃ a1 c1 a2 c2 a3 c3 a4 c4, cs = [.int .i64 kind, .string (bs name), .bool sec, .int .i64 len, .int .i64 fr, .int .i64 to, .int .i64 k1, .int .u32 n1, .int .i64 o1, .string (bs m1), .slice a1 l1.length c1, .int .i64 k2, .int .u32 n2, .int .i64 o2, .string (bs m2), .slice a2 l2.length c2, .slice a3 body.length c3, .slice a4 els.length c4] ∧
      l1.length ≤ c1 ∧ l2.length ≤ c2 ∧ body.length ≤ c3 ∧ els.length ≤ c4 ∧ exR w S a1 l1 ∧ exR w S a2 l2 ∧ smR w S a3 body ∧ smR w S a4 els
def smR (w : World) (S : Nat → Prop) : Option Addr → List Sm → Prop
  | _, [] => True
  | a, x :: l => ∃ b o cs, a = some ⟨b, o, none⟩ ∧ S b ∧ (∀ j u, cs[j]? = some u → w.cell? ⟨b, o + j, none⟩ = some u) ∧ smC w S cs x ∧ smR w S (some ⟨b, o + 18, none⟩) l
end
theorem smC_mk (w : World) (S : Nat → Prop) (cs : List Value) (kind : Int) (name : List UInt8) (sec : Bool) (len fr to : Int) (k1 : Int) (n1 : Nat) (o1 : Int) (m1 : List UInt8) (l1 : List Ex) (k2 : Int) (n2 : Nat) (o2 : Int) (m2 : List UInt8) (l2 : List Ex) (body els : List Sm) :
    smC w S cs (.mk kind name sec len fr to (.mk k1 n1 o1 m1 l1) (.mk k2 n2 o2 m2 l2) body els) = ∃ a1 c1 a2 c2 a3 c3 a4 c4, cs = [.int .i64 kind, .string (bs name), .bool sec, .int .i64 len, .int .i64 fr, .int .i64 to, .int .i64 k1, .int .u32 n1, .int .i64 o1, .string (bs m1), .slice a1 l1.length c1, .int .i64 k2, .int .u32 n2, .int .i64 o2, .string (bs m2), .slice a2 l2.length c2, .slice a3 body.length c3, .slice a4 els.length c4] ∧
      l1.length ≤ c1 ∧ l2.length ≤ c2 ∧ body.length ≤ c3 ∧ els.length ≤ c4 ∧ exR w S a1 l1 ∧ exR w S a2 l2 ∧ smR w S a3 body ∧ smR w S a4 els := by rw [smC]
theorem smC_len {w : World} {S : Nat → Prop} {cs : List Value} {x : Sm} (h : smC w S cs x) : cs.length = 18 := by
  obtain ⟨kind, name, sec, len, fr, to, ⟨k1, n1, o1, m1, l1⟩, ⟨k2, n2, o2, m2, l2⟩, body, els⟩ := x
  rw [smC_mk] at h
  obtain ⟨a1, c1, a2, c2, a3, c3, a4, c4, rfl, _⟩ := h
  rfl
theorem smC_one {w : World} {S : Nat → Prop} {cs : List Value} {x : Sm} (h : smC w S cs x) : ∀ u ∈ cs, u.oneCell' = true := by
  obtain ⟨kind, name, sec, len, fr, to, ⟨k1, n1, o1, m1, l1⟩, ⟨k2, n2, o2, m2, l2⟩, body, els⟩ := x
  rw [smC_mk] at h
  obtain ⟨a1, c1, a2, c2, a3, c3, a4, c4, rfl, _⟩ := h
  simp [Value.oneCell']
mutual
theorem smC_mono {w w' : World} {S T : Nat → Prop} (hg : Goes w w' S T) : ∀ {x : Sm} {cs : List Value}, smC w S cs x → smC w' T cs x
  | .mk kind name sec len fr to (.mk k1 n1 o1 m1 l1) (.mk k2 n2 o2 m2 l2) body els, cs, h => by
    rw [smC_mk] at h ⊢
    obtain ⟨a1, c1, a2, c2, a3, c3, a4, c4, rfl, h1, h2, h3, h4, r1, r2, r3, r4⟩ := h
    exact ⟨a1, c1, a2, c2, a3, c3, a4, c4, rfl, h1, h2, h3, h4, exR_mono hg r1, exR_mono hg r2, smR_mono hg r3, smR_mono hg r4⟩
theorem smR_mono {w w' : World} {S T : Nat → Prop} (hg : Goes w w' S T) : ∀ {l : List Sm} {a : Option Addr}, smR w S a l → smR w' T a l
  | [], _, _ => by rw [smR]; trivial
  | x :: l, a, h => by
    rw [smR] at h ⊢
    obtain ⟨b, o, cs, rfl, hS, hc, hC, hr⟩ := h
    have hl := smC_len hC
    have hlt : b < w.heap.size := World.block_lt_of_cell? w _ (hc 0 cs[0] (List.getElem?_eq_getElem (by omega)))
    obtain ⟨hT, he⟩ := hg b hS hlt
    exact ⟨b, o, cs, rfl, hT, fun j u hj => by rw [World.cell?_of_block he]; exact hc j u hj, smC_mono hg hC, smR_mono hg hr⟩
end
def kSm : Kind Sm where
  n := 18
  C := smC
  len := smC_len
  one := smC_one
  mono := fun h hg => smC_mono hg h
theorem smR_row (w : World) (S : Nat → Prop) : ∀ (l : List Sm) (a : Option Addr), smR w S a l ↔ kSm.row w S a l
  | [], a => by rw [smR]; rfl
  | x :: l, a => by
    rw [smR]
    constructor
    · rintro ⟨b, o, cs, h1, h2, h3, h4, h5⟩
      exact ⟨b, o, cs, h1, h2, h3, h4, (smR_row w S l _).1 h5⟩
    · rintro ⟨b, o, cs, h1, h2, h3, h4, h5⟩
      exact ⟨b, o, cs, h1, h2, h3, h4, (smR_row w S l _).2 h5⟩
/-- The value of a statement. -/
def SmV (w : World) (S : Nat → Prop) (v : Value) (x : Sm) : Prop := ∃ cs : List Value, v = .agg cs.toArray ∧ smC w S cs x

theorem Rg.start3 {B : Nat} {w : World} {r : Nat} {l : List Nd} {p : Int} (h : Rs B w r l p) (T : TypeId) (o : Obj) (rc xc : Array Value) : Rg B w (((w.alloc o).alloc (.cells rc T)).alloc (.cells xc T)) r l p T (w.heap.size + 1) rc (w.heap.size + 2) xc where
  kept := (((Kept.refl _ w).alloc_r _).alloc_r _).alloc_r _
  rs := (h.below (two_below w _ _)).below (one_below _ _)
  res := at_old (two_at w _ _).2
  x := by have := heap_alloc_new ((w.alloc o).alloc (.cells rc T)) (.cells xc T); simpa using this
  hR := by omega
  hX := by omega
  ne := by omega
  old := h.lt
theorem three_at (w : World) (o o1 o2 : Obj) : (((w.alloc o).alloc o1).alloc o2).heap[w.heap.size]? = some o := at_old (two_at w o o1).1
/-- Another reader's list, which is new, is read. -/
theorem Rg.other {B : Nat} {w w' w'' : World} {r : Nat} {l : List Nd} {p : Int} {T : TypeId} {R : Nat} {rc : Array Value} {X : Nat} {xc : Array Value} (h : Rg B w w' r l p T R rc X xc) {k : Nat} (hk : Kept (fun i => i = k) w' w'') (h1 : k ≠ R) (h2 : k ≠ X) (h3 : w.heap.size ≤ k) : Rg B w w'' r l p T R rc X xc where
  kept := h.kept.past hk fun i e => by omega
  rs := h.rs.keep hk (fun i e => by have := h.rs.own; have := h.old; omega) (by have := h.old; omega)
  res := keep_box h.res hk (fun e => h1 e.symm)
  x := keep_box h.x hk (fun e => h2 e.symm)
  hR := h.hR
  hX := h.hX
  ne := h.ne
  old := h.old
end Go.Proofs.YtbpdhegfdmppgaaGreatDoor

/- WHAT readStmt READS, sort by sort. -/
namespace Go.Proofs.YtbpdhegfdmppgaaGreatDoor
open Go.ChangeShapes Go.WideShapes Go.ChangeAt Go.RowKit

/-- What lies behind a block is as it was. -/
def Far (X : Nat) (w w' : World) : Prop := w.heap.size ≤ w'.heap.size ∧ ∀ b, X < b → b < w.heap.size → w'.heap[b]? = w.heap[b]?
theorem Far.refl (X : Nat) (w : World) : Far X w w := ⟨Nat.le_refl _, fun _ _ _ => rfl⟩
theorem Far.trans {X : Nat} {a b c : World} (h : Far X a b) (k : Far X b c) : Far X a c := ⟨Nat.le_trans h.1 k.1, fun i hi hl => (k.2 i hi (Nat.lt_of_lt_of_le hl h.1)).trans (h.2 i hi hl)⟩
theorem Far.set {X : Nat} {a b : World} (h : Far X a b) (i : Nat) (v : Value) : Far X a (b.setCell ⟨X, i, none⟩ v) :=
  ⟨by simpa [World.setCell] using h.1, fun k hk hl => by rw [setCell_other (by omega)]; exact h.2 k hk hl⟩
theorem Far.kept {X r : Nat} {a b c : World} (h : Far X a b) (k : Kept (fun i => i = r) b c) (hr : r ≤ X) : Far X a c := h.trans ⟨k.size, fun i hi hl => k.block i hl (by omega)⟩
theorem Far.below {X : Nat} {a b c : World} (h : Far X a b) (k : Below b.heap.size b c) : Far X a c := h.trans ⟨k.size, fun i _ hl => k.block i hl⟩
theorem Far.other {X r : Nat} {a b c : World} (h : Far X a b) (k : Kept (fun i => i = r) b c) (hr : a.heap.size ≤ r) : Far X a c := ⟨Nat.le_trans h.1 k.size, fun i hi hl => (k.block i (Nat.lt_of_lt_of_le hl h.1) (by omega)).trans (h.2 i hi hl)⟩
theorem Far.goes {X : Nat} {a b : World} (h : Far X a b) : Goes a b (fun i => X < i) (fun i => X < i) := fun i hi hl => ⟨hi, h.2 i hi hl⟩

def StmtsN (m : Nat) : Prop := ∀ (B : Nat) (w : World) (r : Nat) (l : List Nd) (p : Int), Rs B w r l p → szL l ≤ m →
  Calls Tryz.prog 117 #[.pointer (some ⟨r, 0, none⟩)] w (Takes kSm.rd B w r p ((rdSs l).bind fun x => .ok (x, [])))
def StmtN (m : Nat) : Prop := ∀ (B : Nat) (w : World) (r : Nat) (l : List Nd) (p : Int) (il : Bool) (wd : List UInt8) (ks : List Nd) (q : Int) (a : Option Addr) (c : Nat), Rs B w r l p → szL l ≤ m →
  Calls Tryz.prog 99 #[.agg #[.bool il, .string (bs wd), .slice a ks.length c, .int .i64 q], .pointer (some ⟨r, 0, none⟩)] w (Takes SmV B w r p ((rdSt p (.mk il wd ks q :: l)).bind fun x => .ok (x, [])))

theorem st_let {p : Int} {n : Nd} {r : List Nd} (h : rdText n = .ok [108, 101, 116]) : rdSt p (n :: r) = (rdBy rdNameOf p r).bind fun a => (rdBy rdE p a.2).bind fun b => ((rdEnd b.2).bind fun y => .ok (y, ([] : List Nd))).bind fun _ => .ok (.mk 1 a.1 false 0 0 0 (.mk 0 0 0 [] []) b.1 [] []) := by
  rw [rdSt.eq_def]
  simp only [h, Res.bind_ok, if_true, Res.bind_assoc, Ex.none]
theorem st_set {p : Int} {n : Nd} {r : List Nd} (h : rdText n = .ok [115, 101, 116]) : rdSt p (n :: r) = (rdBy rdNameOf p r).bind fun a => (rdBy rdE p a.2).bind fun b => ((rdEnd b.2).bind fun y => .ok (y, ([] : List Nd))).bind fun _ => .ok (.mk 3 a.1 false 0 0 0 (.mk 0 0 0 [] []) b.1 [] []) := by
  rw [rdSt.eq_def]
  simp only [h, Res.bind_ok, show ([115, 101, 116] : List UInt8) ≠ [108, 101, 116] by decide, if_false, if_true, Res.bind_assoc, Ex.none]
theorem st_new {p : Int} {n : Nd} {r : List Nd} (h : rdText n = .ok [110, 101, 119]) : rdSt p (n :: r) = (rdBy rdNameOf p r).bind fun a => (rdBy rdLabelOf p a.2).bind fun b => (rdBy (rdWithinOf 1 16) p b.2).bind fun c => ((rdEnd c.2).bind fun y => .ok (y, ([] : List Nd))).bind fun _ => .ok (.mk 2 a.1 b.1 c.1 0 0 (.mk 0 0 0 [] []) (.mk 0 0 0 [] []) [] []) := by
  rw [rdSt.eq_def]
  simp only [h, Res.bind_ok, show ([110, 101, 119] : List UInt8) ≠ [108, 101, 116] by decide, show ([110, 101, 119] : List UInt8) ≠ [115, 101, 116] by decide, if_false, if_true, Res.bind_assoc, Ex.none]
theorem st_put {p : Int} {n : Nd} {r : List Nd} (h : rdText n = .ok [112, 117, 116]) : rdSt p (n :: r) = (rdBy rdNameOf p r).bind fun a => (rdBy rdE p a.2).bind fun b => (rdBy rdE p b.2).bind fun c => ((rdEnd c.2).bind fun y => .ok (y, ([] : List Nd))).bind fun _ => .ok (.mk 4 a.1 false 0 0 0 b.1 c.1 [] []) := by
  rw [rdSt.eq_def]
  simp only [h, Res.bind_ok, show ([112, 117, 116] : List UInt8) ≠ [108, 101, 116] by decide, show ([112, 117, 116] : List UInt8) ≠ [115, 101, 116] by decide, show ([112, 117, 116] : List UInt8) ≠ [110, 101, 119] by decide, if_false, if_true, Res.bind_assoc, Ex.none]
theorem st_for {p : Int} {n : Nd} {r : List Nd} (h : rdText n = .ok [102, 111, 114]) : rdSt p (n :: r) = (rdBy rdNameOf p r).bind fun a => (rdBy (rdWithinOf 0 64) p a.2).bind fun b => (rdBy (rdWithinOf 0 64) p b.2).bind fun c => ((rdSs c.2).bind fun x => .ok (x, ([] : List Nd))).bind fun l => ((rdEnd l.2).bind fun y => .ok (y, ([] : List Nd))).bind fun _ => .ok (.mk 5 a.1 false 0 b.1 c.1 (.mk 0 0 0 [] []) (.mk 0 0 0 [] []) l.1 []) := by
  rw [rdSt.eq_def]
  simp only [h, Res.bind_ok, show ([102, 111, 114] : List UInt8) ≠ [108, 101, 116] by decide, show ([102, 111, 114] : List UInt8) ≠ [115, 101, 116] by decide, show ([102, 111, 114] : List UInt8) ≠ [110, 101, 119] by decide, show ([102, 111, 114] : List UInt8) ≠ [112, 117, 116] by decide, if_false, if_true, Res.bind_assoc, Ex.none]
  cases r with
  | nil => rfl
  | cons x r =>
    simp only [rdBy, rdNext, Res.bind_ok, Res.bind_assoc]
    congr 1; funext a
    cases r with
    | nil => rfl
    | cons y r =>
      simp only [Res.bind_ok]
      congr 1; funext b
      cases r with
      | nil => rfl
      | cons z r => simp only [Res.bind_ok, rdEnd]
theorem st_if {p : Int} {n : Nd} {r : List Nd} (h : rdText n = .ok [105, 102]) : rdSt p (n :: r) = (rdBy rdE p r).bind fun e => (rdBy rdBlock p e.2).bind fun a => (rdBy rdBlock p a.2).bind fun b => ((rdEnd b.2).bind fun y => .ok (y, ([] : List Nd))).bind fun _ => .ok (.mk 6 [] false 0 0 0 (.mk 0 0 0 [] []) e.1 a.1 b.1) := by
  rw [rdSt.eq_def]
  simp only [h, Res.bind_ok, show ([105, 102] : List UInt8) ≠ [108, 101, 116] by decide, show ([105, 102] : List UInt8) ≠ [115, 101, 116] by decide, show ([105, 102] : List UInt8) ≠ [110, 101, 119] by decide, show ([105, 102] : List UInt8) ≠ [112, 117, 116] by decide, show ([105, 102] : List UInt8) ≠ [102, 111, 114] by decide, if_false, if_true, Res.bind_assoc, Ex.none]
  cases r with
  | nil => rfl
  | cons x r =>
    simp only [rdBy, rdNext, Res.bind_ok, Res.bind_assoc]
    congr 1; funext a
    cases r with
    | nil => rfl
    | cons y r =>
      simp only [Res.bind_ok]
      congr 1; funext b
      cases r with
      | nil => rfl
      | cons z r => simp only [Res.bind_ok]
theorem st_none {p : Int} {n : Nd} {r : List Nd} {s : List UInt8} (h : rdText n = .ok s) (h0 : s ≠ [108, 101, 116]) (h1 : s ≠ [115, 101, 116]) (h2 : s ≠ [110, 101, 119]) (h3 : s ≠ [112, 117, 116]) (h4 : s ≠ [102, 111, 114]) (h5 : s ≠ [105, 102]) : rdSt p (n :: r) = .bad 6 n.pos := by
  rw [rdSt.eq_def]
  simp only [h, Res.bind_ok, h0, h1, h2, h3, h4, h5, if_false]

end Go.Proofs.YtbpdhegfdmppgaaGreatDoor
