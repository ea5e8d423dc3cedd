/- Texts of this proof, put together: SEx6, SEx6b, SEx3, SExpr. -/
import Derived.Test.YtbpdhegfdmppgaaGreatDoorM23
import Derived.Deep.RegionHeld3
import Derived.Deep.RegionLaw

/- CONTRACT of exprNode at calls. -/
namespace Go.Proofs.YtbpdhegfdmppgaaGreatDoor.Sh
open Go.ChangeShapes Go.WideShapes Go.ChangeAt Go.RowKit

/-- The blocks of an expression's call, as they lie ready: its argument's, its result's. -/
def Ready (w : World) (kind : Int) (n : Nat) (op : Int) (name : List UInt8) (a : Option Addr) (len c : Nat) (w' : World) : Prop :=
  Below ((w.alloc (exO kind n op name a len c)).alloc nd0).heap.size ((w.alloc (exO kind n op name a len c)).alloc nd0) w'
theorem Ready.on {w : World} {kind : Int} {n : Nat} {op : Int} {name : List UInt8} {a : Option Addr} {len c : Nat} {w1 w2 : World} (h : Ready w kind n op name a len c w1) (hb : Below w1.heap.size w1 w2) : Ready w kind n op name a len c w2 := bl_then h hb
theorem Ready.alloc {w : World} {kind : Int} {n : Nat} {op : Int} {name : List UInt8} {a : Option Addr} {len c : Nat} {w1 : World} (h : Ready w kind n op name a len c w1) (o : Obj) : Ready w kind n op name a len c (w1.alloc o) := bl_alloc h o
theorem drew_bl (w : World) : Below w.heap.size w w.drew := ⟨rfl, rfl, rfl, Nat.le_refl _, fun _ _ => rfl⟩
theorem Ready.S {w : World} {kind : Int} {n : Nat} {op : Int} {name : List UInt8} {a : Option Addr} {len c : Nat} {w1 : World} (h : Ready w kind n op name a len c w1) :
    w1.cell? ⟨w.heap.size, 3, none⟩ = some (.string (bs name)) ∧ w1.cell? ⟨w.heap.size, 4, none⟩ = some (.slice a len c) ∧ w1.cell? ⟨w.heap.size + 1, 0, none⟩ = some (.bool false) ∧ w1.cell? ⟨w.heap.size + 1, 1, none⟩ = some (.string ⟨#[]⟩) ∧ w1.cell? ⟨w.heap.size + 1, 2, none⟩ = some (.slice none 0 0) ∧ w1.cell? ⟨w.heap.size + 1, 3, none⟩ = some (.int .i64 0) ∧
      w1.frozen? ⟨w.heap.size + 1, 0, none⟩ = false ∧ w1.frozen? ⟨w.heap.size + 1, 1, none⟩ = false ∧ w1.frozen? ⟨w.heap.size + 1, 2, none⟩ = false ∧ w1.frozen? ⟨w.heap.size + 1, 3, none⟩ = false := by
  obtain ⟨hres, hbox, _, _⟩ := res_ready h
  obtain ⟨c0, c1, c2, c3, f0, f1, f2, f3⟩ := nd_free hres
  exact ⟨by simp [World.cell?, hbox], by simp [World.cell?, hbox], c0, c1, c2, c3, f0, f1, f2, f3⟩
theorem Ready.B {w : World} {kind : Int} {n : Nat} {op : Int} {name : List UInt8} {a : Option Addr} {len c : Nat} {w1 : World} (h : Ready w kind n op name a len c w1) : w1.cell? ⟨w.heap.size, 3, none⟩ = some (.string (bs name)) ∧ w1.cell? ⟨w.heap.size, 4, none⟩ = some (.slice a len c) := ⟨h.S.1, h.S.2.1⟩
theorem Ready.B4 {w : World} {kind : Int} {n : Nat} {op : Int} {name : List UInt8} {a : Option Addr} {len c : Nat} {w1 : World} (h : Ready w kind n op name a len c w1) (v0 v1 v2 v3 : Value) : ((((w1.setCell ⟨w.heap.size + 1, 0, none⟩ v0).setCell ⟨w.heap.size + 1, 1, none⟩ v1).setCell ⟨w.heap.size + 1, 2, none⟩ v2).setCell ⟨w.heap.size + 1, 3, none⟩ v3).cell? ⟨w.heap.size, 3, none⟩ = some (.string (bs name)) ∧ ((((w1.setCell ⟨w.heap.size + 1, 0, none⟩ v0).setCell ⟨w.heap.size + 1, 1, none⟩ v1).setCell ⟨w.heap.size + 1, 2, none⟩ v2).setCell ⟨w.heap.size + 1, 3, none⟩ v3).cell? ⟨w.heap.size, 4, none⟩ = some (.slice a len c) := by
  have e : ∀ o, ((((w1.setCell ⟨w.heap.size + 1, 0, none⟩ v0).setCell ⟨w.heap.size + 1, 1, none⟩ v1).setCell ⟨w.heap.size + 1, 2, none⟩ v2).setCell ⟨w.heap.size + 1, 3, none⟩ v3).cell? ⟨w.heap.size, o, none⟩ = w1.cell? ⟨w.heap.size, o, none⟩ := fun o => World.cell?_of_block (set4o (i := w.heap.size) (by omega))
  rw [e, e]
  exact h.B
theorem own_on {w w' : World} {base : Nat} {e : TypeId} {size : Nat} {v : Value} {n : Nat} {xs : List Value} (h : w.ownsRow base e size v n xs) (hb : Below w.heap.size w w') : w'.ownsRow base e size v n xs := own_kept h (Below.kept hb (fun _ => False)) (fun _ _ h => h)
theorem Ready.grow {w : World} {kind : Int} {n : Nat} {op : Int} {name : List UInt8} {a : Option Addr} {len c : Nat} {w1 w2 : World} {row : Option Nat} (h : Ready w kind n op name a len c w1) (hg : w1.grownBy w2 row) (hr : ∀ k, row = some k → w.heap.size + 2 ≤ k) : Ready w kind n op name a len c w2 := by
  have hz : ((w.alloc (exO kind n op name a len c)).alloc nd0).heap.size = w.heap.size + 2 := by simp
  refine ⟨hg.os.trans h.os, hg.tape.trans h.tape, hg.output.trans h.output, Nat.le_trans h.size hg.size, fun k hk => ?_⟩
  rw [hg.block k (Nat.lt_of_lt_of_le hk h.size) fun e => ?_]
  · exact h.block k hk
  · have := hr k e.symm; omega
theorem Ready.size {w : World} {kind : Int} {n : Nat} {op : Int} {name : List UInt8} {a : Option Addr} {len c : Nat} {w1 : World} (h : Ready w kind n op name a len c w1) : w.heap.size + 2 ≤ w1.heap.size := by
  have := Below.size h
  simpa using this
/-- A word's node ahead of others, appended. -/
theorem lead_row {w3 w4 : World} {base g : Nat} {S : Nat → Prop} {name : List UInt8} {zs : List Nd} {cs : List Value} {y : Option Addr} {c : Nat} (hlay : kNd.lay w3 S cs zs) (hg : w3.grownBy w4 (some g)) (hS : ∀ b, S b → b < w3.heap.size ∧ b ≠ g)
    (hown : w4.ownsRow base 66 4 (.slice y (1 + zs.length) c) (1 + zs.length) ([.bool false, .string (bs name), .slice none 0 0, .int .i64 0] ++ cs)) : kNd.row w4 (fun b => S b ∨ base ≤ b) y (lf name :: zs) := by
  have hlen : (lf name :: zs).length = 1 + zs.length := by simp; omega
  rw [← hlen] at hown
  have hl4 : kNd.lay w4 S ([.bool false, .string (bs name), .slice none 0 0, .int .i64 0] ++ cs) (lf name :: zs) :=
    ⟨_, _, rfl, leaf_C name _ _, kNd.lay_mono hlay fun b hb _ => ⟨hb, by have := hS b hb; exact hg.block b this.1 fun e => this.2 (by cases e; rfl)⟩⟩
  obtain ⟨a', c', he, hrow, _⟩ := kNd.own_rd (t := 66) (S := S) (T := fun b => S b ∨ base ≤ b) ⟨_, hown, hl4⟩ (fun _ hb => .inl hb) fun g hg => .inr (hown.lt g hg).1
  injection he with h1 h2 h3
  subst h1
  exact hrow
theorem form_lead {w4 : World} {S : Nat → Prop} {name s : List UInt8} {zs : List Nd} {y : Option Addr} {c : Nat} (h : kNd.row w4 S y (lf name :: zs)) (hl : zs.length ≤ 100000) : Calls Tryz.prog 76 #[.string (bs s), .slice y (1 + zs.length) c] w4 fun e w' => (∃ v, e = .returned v ∧ NdV w' (fun b => S b ∨ w4.heap.size ≤ b) v (fm s (lf name :: zs))) ∧ Below w4.heap.size w4 w' := by
  have hlen : (lf name :: zs).length = 1 + zs.length := by simp; omega
  have := form_any s y (lf name :: zs) c w4 h (by omega)
  rw [hlen] at this
  exact this
set_option maxRecDepth 100000 in
set_option maxHeartbeats 4000000 in
theorem expr_call_yes {m B : Nat} {S : Nat → Prop} (hN : ExprN m) (name : List UInt8) (l : List Ex) (a : Option Addr) (c : Nat) (w : World) (hg : Glob B w) (hr : exR w S a l) (hm : exWs l ≤ m) (hm' : exWs l ≤ 1000000) (hok : exOks l) (hnl : name.length ≤ 1000000) (hfu : isFullB name = true) (hl6 : l.length ≤ 6) (zs : List Nd) (hs : shEs l = some zs) : Calls Tryz.prog 90 #[exV 6 0 0 name a l.length c] w (Shows NdV w (shE (.mk 6 0 0 name l))) := by
  have HF : Hid (shE (.mk 6 0 0 name l) = some (fm [99, 97, 108, 108] (lf name :: zs))) := by
    show _ = _
    rw [shE, if_neg (by omega), if_neg (by omega), if_neg (by omega), if_neg (by omega), if_neg (by omega), if_pos rfl, if_pos ⟨rfl, rfl, hfu, hl6⟩, hs]; rfl
  have hfa := full_any name ((w.alloc (exO 6 0 0 name a l.length c)).alloc nd0) (by omega) ((hg.alloc _).alloc _)
  rw [hfu] at hfa
  have h6 : (l.length : Int) ≤ 6 := by omega
  have HEA : Hid (∀ w1, Ready w 6 0 0 name a l.length c w1 → Calls Tryz.prog 112 #[.slice a l.length c, .func (.func 90) #[] #[]] w1 (Shows kNd.rd w1 (some zs))) := fun w1 hb => by
    rw [← hs]
    exact hN.each (exR_mono (T := S) (fun i hi hlt => ⟨hi, by rw [Below.block hb i (by simp; omega)]; exact (bl_two w _ _).block i hlt⟩) hr) (((hg.alloc _).alloc _).below hb) hm hm' hok
  have hzl : zs.length ≤ 6 := by have := eachO_len shE l zs (by rw [← shEs_each]; exact hs); omega
  clear hs hl6 hfu hN hr hok
  have CB : Hid (∀ (w1 : World), Ready w 6 0 0 name a l.length c w1 → (∀ i : Nat, w1.cell? ⟨w.heap.size, i, none⟩ = #[Value.int .i64 6, .int .u32 (0 : Nat), .int .i64 0, .string (bs name), .slice a l.length c][i]?) ∧ w.heap.size < w1.heap.size) := fun w1 hb => by
      obtain ⟨_, hbox, hz, _⟩ := res_ready hb
      exact ⟨fun i => by simp [World.cell?, hbox], by omega⟩
  go_enter Tryz.func90, Tryz.ntmps90
  go_wp2_with (first | (go_at_call 113; refine hfa.mono ?_; rintro e w1 ⟨rfl, hb1⟩; obtain ⟨cb, hz1⟩ := CB.out w1 hb1) | (go_at_call 75; refine (must_yes _).mono ?_; rintro e w9 ⟨rfl, hq⟩; have hq' := hq.symm; subst hq'))
  have c3 : w1.cell? ⟨w.heap.size, 3, none⟩ = some (.string (bs name)) := by rw [cb]; rfl
  have c4 : w1.cell? ⟨w.heap.size, 4, none⟩ = some (.slice a l.length c) := by rw [cb]; rfl
  have HR1 : Hid (Ready w 6 0 0 name a l.length c w1) := hb1
  clear cb hfa hb1
  have R1 := HR1.out.on (drew_bl w1)
  have s1 := HR1.out.B
  have sz1 := HR1.out.size
  go_region_held3 (fun w' => w'.cell? ⟨w.heap.size, 3, none⟩ = some (.string (bs name)) ∧ w'.cell? ⟨w.heap.size, 4, none⟩ = some (.slice a l.length c))
    (first | with_reducible exact R5.B4 _ _ _ _ | with_reducible exact R5.B | with_reducible exact R4.B | with_reducible exact R3.B | with_reducible exact (R3.alloc _).B | with_reducible exact R2.B | with_reducible exact (R2.alloc _).B | with_reducible exact R1.B | go_keep)
    (first | (go_at_call 104; refine (leaf_any _ _).mono ?_; rintro e w2 ⟨rfl, hb2⟩; have R2 := R1.on hb2; have sz2 := R2.size) | (go_at_call 112; refine (HEA.out _ (R2.alloc _)).mono ?_; rintro e w3 hG3; obtain ⟨v3, rfl, a3, k3, rfl, hr3, hc3⟩ := hG3.ok _ rfl; have hb3 := hG3.below; have R3 := (R2.alloc _).on hb3; have hz3 := hb3.size; obtain ⟨cs3, hlay3, hsrc3⟩ := kNd.src (c := k3) (tx := 23) Tryz.underlying23 (kNd.row_old (by decide) hr3)) | (go_at_call 112; refine (HEA.out _ R2).mono ?_; rintro e w3 hG3; obtain ⟨v3, rfl, a3, k3, rfl, hr3, hc3⟩ := hG3.ok _ rfl; have hb3 := hG3.below; have R3 := R2.on hb3; have hz3 := hb3.size; obtain ⟨csB, hlayB, hsrcB⟩ := kNd.src (c := k3) (tx := 23) Tryz.underlying23 (kNd.row_mono (w' := w3.alloc (.cells #[.bool false, .string (bs name), .slice none 0 0, .int .i64 0] 66)) (by decide) (kNd.row_old (by decide) hr3) (fun b hb hlt => ⟨hb, heap_alloc_old w3 _ hlt⟩))) | (go_at_call 76; refine hfo.mono ?_; rintro e w5 ⟨⟨v5, rfl, a5, k5, rfl, hc5, hr5⟩, hb5⟩; have R5 := R4.on hb5; obtain ⟨_, _, q0, q1, q2, q3, z0, z1, z2, z3⟩ := R5.S) | (refine step_append_src nd_info rfl Tryz.underlying23 (by decide) rfl _ _ (by rfl) w2.heap.size (.slice (some ⟨w2.heap.size, 0, none⟩) 1 1) 1 [.bool false, .string (bs name), .slice none 0 0, .int .i64 0] (by rfl) (own_on (own_one w2 w2.heap.size 66 4 [.bool false, .string (bs name), .slice none 0 0, .int .i64 0] (Nat.le_refl _) rfl) hb3) _ zs.length cs3 (by rfl) hsrc3 (by omega) (by simp at hz3; omega) ?_; intro y4 k4 w4 hown4 hgrow4 hat4; have R4 := R3.grow hgrow4 (fun k e => by simp [Value.ownBlock] at e; omega); have hrow4 : kNd.row w4 (fun b => w.heap.size + 2 ≤ b) y4 (lf name :: zs) := kNd.row_mono (by decide) (lead_row (g := w2.heap.size) hlay3 hgrow4 (fun b hb => ⟨hb.2, by have := hb.1; simp at this; omega⟩) hown4) (fun b hb _ => ⟨by (rcases hb with hb | hb; (have := hb.1; simp at this; omega); omega), rfl⟩); have hfo := form_lead (s := [99, 97, 108, 108]) (c := k4) hrow4 (by omega)) | (refine step_append_src nd_info rfl Tryz.underlying23 (by decide) rfl _ _ (by rfl) w3.heap.size (.slice (some ⟨w3.heap.size, 0, none⟩) 1 1) 1 [.bool false, .string (bs name), .slice none 0 0, .int .i64 0] (by rfl) (own_one w3 w3.heap.size 66 4 [.bool false, .string (bs name), .slice none 0 0, .int .i64 0] (Nat.le_refl _) rfl) _ zs.length csB (by rfl) hsrcB (by omega) (by simp) ?_; intro y4 k4 w4 hown4 hgrow4 hat4; have R4 := (R3.alloc _).grow hgrow4 (fun k e => by simp [Value.ownBlock] at e; omega); have hrow4 : kNd.row w4 (fun b => w.heap.size + 2 ≤ b) y4 (lf name :: zs) := kNd.row_mono (by decide) (lead_row (g := w3.heap.size) hlayB hgrow4 (fun b hb => ⟨by have := hb.2; simp; omega, by have := hb.2; omega⟩) hown4) (fun b hb _ => ⟨by (rcases hb with hb | hb; (have := hb.1; omega); omega), rfl⟩); have hfo := form_lead (s := [99, 97, 108, 108]) (c := k4) hrow4 (by omega)))
  all_goals
    obtain ⟨hres, _, hz5, hbw5⟩ := res_ready R5
    have HB5 : Hid (Below w.heap.size w w5) := hbw5
    have HRW : Hid _ := hr5
    have HS4 : Hid (w.heap.size + 2 ≤ w4.heap.size) := R4.size
    clear hbw5 hr5 hfo R1 R2 R3 R4 R5 hb5 hown4 hgrow4 hat4 hG3
    go_wp2_with fail
    refine bodyPost_ret_by (results_row Tryz.results90 rfl (load_nd (set4c hres) rfl)) rfl (.ofOk HF.out (bl_set4 HB5.out _ _ _ _ _ (by omega)) ⟨a5, k5, rfl, hc5, kNd.row_mono (by decide) HRW.out fun i hi _ => ?_⟩)
    have h2 : w.heap.size + 2 ≤ i := by
      rcases hi with h | h
      · exact h
      · have := HS4.out; omega
    exact ⟨by omega, set4o (by omega)⟩
end Go.Proofs.YtbpdhegfdmppgaaGreatDoor.Sh

/- CONTRACT of exprNode at calls that cannot be shown. -/
namespace Go.Proofs.YtbpdhegfdmppgaaGreatDoor.Sh
open Go.ChangeShapes Go.WideShapes Go.ChangeAt Go.RowKit

theorem Ready.C {w : World} {kind : Int} {n : Nat} {op : Int} {name : List UInt8} {a : Option Addr} {len c : Nat} {w1 : World} (h : Ready w kind n op name a len c w1) : (∀ i : Nat, w1.cell? ⟨w.heap.size, i, none⟩ = #[Value.int .i64 kind, .int .u32 (n : Nat), .int .i64 op, .string (bs name), .slice a len c][i]?) ∧ w.heap.size < w1.heap.size := by
  obtain ⟨_, hbox, hz, _⟩ := res_ready h
  exact ⟨fun i => by simp [World.cell?, hbox], by omega⟩
theorem Ready.bl {w : World} {kind : Int} {n : Nat} {op : Int} {name : List UInt8} {a : Option Addr} {len c : Nat} {w1 : World} (h : Ready w kind n op name a len c w1) : Below w.heap.size w w1 := (res_ready h).2.2.2
set_option maxRecDepth 100000 in
set_option maxHeartbeats 4000000 in
theorem expr_call_args {m B : Nat} {S : Nat → Prop} (hN : ExprN m) (name : List UInt8) (l : List Ex) (a : Option Addr) (c : Nat) (w : World) (hg : Glob B w) (hr : exR w S a l) (hm : exWs l ≤ m) (hm' : exWs l ≤ 1000000) (hok : exOks l) (hnl : name.length ≤ 1000000) (hfu : isFullB name = true) (hl6 : l.length ≤ 6) (hs : shEs l = none) : Calls Tryz.prog 90 #[exV 6 0 0 name a l.length c] w (Shows NdV w (shE (.mk 6 0 0 name l))) := by
  have HF : Hid (shE (.mk 6 0 0 name l) = none) := by
    show _ = _
    rw [shE, if_neg (by omega), if_neg (by omega), if_neg (by omega), if_neg (by omega), if_neg (by omega), if_pos rfl, if_pos ⟨rfl, rfl, hfu, hl6⟩, hs]; rfl
  have hfa := full_any name ((w.alloc (exO 6 0 0 name a l.length c)).alloc nd0) (by omega) ((hg.alloc _).alloc _)
  rw [hfu] at hfa
  have h6 : (l.length : Int) ≤ 6 := by omega
  have HEA : Hid (∀ w1, Ready w 6 0 0 name a l.length c w1 → Calls Tryz.prog 112 #[.slice a l.length c, .func (.func 90) #[] #[]] w1 (Shows kNd.rd w1 none)) := fun w1 hb => by
    rw [← hs]
    exact hN.each (exR_mono (T := S) (fun i hi hlt => ⟨hi, by rw [Below.block hb i (by simp; omega)]; exact (bl_two w _ _).block i hlt⟩) hr) (((hg.alloc _).alloc _).below hb) hm hm' hok
  clear hs hl6 hfu hN hr hok
  go_enter Tryz.func90, Tryz.ntmps90
  go_wp2_with (first | (go_at_call 113; refine hfa.mono ?_; rintro e w1 ⟨rfl, hb1⟩; obtain ⟨cb, hz1⟩ := Ready.C hb1) | (go_at_call 75; refine (must_yes _).mono ?_; rintro e w9 ⟨rfl, hq⟩; have hq' := hq.symm; subst hq'))
  have R1 : Ready w 6 0 0 name a l.length c w1.drew := Ready.on hb1 (drew_bl w1)
  clear hfa hb1
  go_region_law (first | (refine step_call rfl 104 _ _ rfl #[.string (bs name)] (by simp [go_sem, Act.eval]) ?_; refine (leaf_any _ _).mono ?_; rintro e w2 ⟨rfl, hb2⟩; have R2 := R1.on hb2; obtain ⟨cb2, hz2⟩ := R2.C) | (refine step_call rfl 112 _ _ rfl #[.slice a l.length c, .func (.func 90) #[] #[]] (by simp [go_sem, Act.eval]) ?_; refine (HEA.out _ (by (first | with_reducible exact R2 | with_reducible exact R2.alloc _))).mono ?_; rintro e w3 hG3; obtain rfl := hG3.bad rfl; refine (fun (_ : wpAny Tryz.prog Region.Mode.any #[] (fun _ _ _ => True) 0 #[] ⟨#[], []⟩ w1) => ⟨rfl, .ofBad HF.out (bl_then (by (first | with_reducible exact R2.bl | with_reducible exact (R2.alloc _).bl)) hG3.below)⟩) ?_))
  all_goals trivial
end Go.Proofs.YtbpdhegfdmppgaaGreatDoor.Sh

/- CONTRACT of exprNode at places of arrays. -/
namespace Go.Proofs.YtbpdhegfdmppgaaGreatDoor.Sh
open Go.ChangeShapes Go.WideShapes Go.ChangeAt Go.RowKit

theorem cells_of {w : World} {b : Nat} {cs : List Value} {t : TypeId} {f : Nat × Nat} (h : w.heap[b]? = some (.cells cs.toArray t f)) : ∀ j u, cs[j]? = some u → w.cell? ⟨b, 0 + j, none⟩ = some u := fun j u hj => by
  simp [World.cell?, h, hj]
/-- A row that is made of data at hand. -/
theorem Kind.lay_blk {α : Type} (K : Kind α) {w : World} {S : Nat → Prop} {cs : List Value} {l : List α} {t : TypeId} (h : K.lay w S cs l) : K.row (w.alloc (.cells cs.toArray t)) (fun b => S b ∨ b = w.heap.size) (some ⟨w.heap.size, 0, none⟩) l :=
  K.lay_row (S := S) (fun _ h => .inl h) w.heap.size (.inr rfl) 0 (K.lay_mono h fun _ hb hlt => ⟨hb, heap_alloc_old w _ hlt⟩) (cells_of (heap_alloc_new w _))
theorem nd_C {w : World} {S : Nat → Prop} {il : Bool} {wd : List UInt8} {ks : List Nd} {p : Int} {a : Option Addr} {c : Nat} (hc : ks.length ≤ c) (hr : kNd.row w S a ks) : kNd.C w S [.bool il, .string (bs wd), .slice a ks.length c, .int .i64 p] (.mk il wd ks p) := by
  show ndC _ _ _ _
  rw [ndC]
  exact ⟨a, c, rfl, hc, (ndR_row _ _ _ _).2 hr⟩
/-- Two nodes as a row. -/
theorem two_row {w : World} {S : Nat → Prop} {il1 il2 : Bool} {wd1 wd2 : List UInt8} {ks1 ks2 : List Nd} {p1 p2 : Int} {a1 a2 : Option Addr} {c1 c2 : Nat} (h1 : ks1.length ≤ c1) (r1 : kNd.row w S a1 ks1) (h2 : ks2.length ≤ c2) (r2 : kNd.row w S a2 ks2) :
    kNd.row (w.alloc (.cells #[.bool il1, .string (bs wd1), .slice a1 ks1.length c1, .int .i64 p1, .bool il2, .string (bs wd2), .slice a2 ks2.length c2, .int .i64 p2] 66)) (fun b => S b ∨ b = w.heap.size) (some ⟨w.heap.size, 0, none⟩) [.mk il1 wd1 ks1 p1, .mk il2 wd2 ks2 p2] :=
  kNd.lay_blk (cs := [.bool il1, .string (bs wd1), .slice a1 ks1.length c1, .int .i64 p1, .bool il2, .string (bs wd2), .slice a2 ks2.length c2, .int .i64 p2]) ⟨_, _, rfl, nd_C h1 r1, _, _, rfl, nd_C h2 r2, rfl⟩
theorem row_on {w w' : World} {S : Nat → Prop} {a : Option Addr} {l : List Nd} (h : kNd.row w S a l) (hb : Below w.heap.size w w') : kNd.row w' S a l := kNd.row_mono (by decide) h fun i hi hlt => ⟨hi, hb.block i hlt⟩
/-- The cells of an expression that is alone in its list. -/
structure One (w : World) (S : Nat → Prop) (b o : Nat) (k1 : Int) (n1 : Nat) (o1 : Int) (m1 : List UInt8) (a1 : Option Addr) (l1 : List Ex) (c1 : Nat) : Prop where
  lt : b < w.heap.size
  e0 : w.cell? ⟨b, o, none⟩ = some (.int .i64 k1)
  e1 : w.cell? ⟨b, o + 1, none⟩ = some (.int .u32 (n1 : Nat))
  e2 : w.cell? ⟨b, o + 2, none⟩ = some (.int .i64 o1)
  e3 : w.cell? ⟨b, o + 3, none⟩ = some (.string (bs m1))
  e4 : w.cell? ⟨b, o + 4, none⟩ = some (.slice a1 l1.length c1)
  le : l1.length ≤ c1
  row : exR w S a1 l1
theorem One.on {w w' : World} {S : Nat → Prop} {b o : Nat} {k1 : Int} {n1 : Nat} {o1 : Int} {m1 : List UInt8} {a1 : Option Addr} {l1 : List Ex} {c1 : Nat} (h : One w S b o k1 n1 o1 m1 a1 l1 c1) (hb : Below w.heap.size w w') : One w' S b o k1 n1 o1 m1 a1 l1 c1 :=
  ⟨Nat.lt_of_lt_of_le h.lt hb.size, (hb.cell (p := ⟨b, o, none⟩) h.lt).trans h.e0, (hb.cell (p := ⟨b, o + 1, none⟩) h.lt).trans h.e1, (hb.cell (p := ⟨b, o + 2, none⟩) h.lt).trans h.e2, (hb.cell (p := ⟨b, o + 3, none⟩) h.lt).trans h.e3, (hb.cell (p := ⟨b, o + 4, none⟩) h.lt).trans h.e4, h.le, exR_mono (fun i hi hlt => ⟨hi, hb.block i hlt⟩) h.row⟩
theorem One.of {w : World} {S : Nat → Prop} {a : Option Addr} {k1 : Int} {n1 : Nat} {o1 : Int} {m1 : List UInt8} {l1 : List Ex} (h : exR w S a [.mk k1 n1 o1 m1 l1]) : ∃ b o a1 c1, a = some ⟨b, o, none⟩ ∧ One w S b o k1 n1 o1 m1 a1 l1 c1 := by
  rw [exR] at h
  obtain ⟨b, o, cs, rfl, hS, hc, hC, _⟩ := h
  rw [exC] at hC
  obtain ⟨a1, c1, rfl, hl, hr⟩ := hC
  have h0 := hc 0 _ rfl
  exact ⟨b, o, a1, c1, rfl, World.block_lt_of_cell? w _ h0, h0, hc 1 _ rfl, hc 2 _ rfl, hc 3 _ rfl, hc 4 _ rfl, hl, hr⟩
theorem Ready.At {w : World} {kind : Int} {n : Nat} {op : Int} {name : List UInt8} {a : Option Addr} {len c : Nat} {w1 : World} (h : Ready w kind n op name a len c w1) {S : Nat → Prop} {b o : Nat} {k1 : Int} {n1 : Nat} {o1 : Int} {m1 : List UInt8} {a1 : Option Addr} {l1 : List Ex} {c1 : Nat} (hO : One w S b o k1 n1 o1 m1 a1 l1 c1) :
    w1.cell? ⟨w.heap.size, 3, none⟩ = some (.string (bs name)) ∧ w1.cell? ⟨w.heap.size, 4, none⟩ = some (.slice a len c) ∧ w1.cell? ⟨b, o, none⟩ = some (.int .i64 k1) ∧ w1.cell? ⟨b, o + 1, none⟩ = some (.int .u32 (n1 : Nat)) ∧ w1.cell? ⟨b, o + 2, none⟩ = some (.int .i64 o1) ∧ w1.cell? ⟨b, o + 3, none⟩ = some (.string (bs m1)) ∧ w1.cell? ⟨b, o + 4, none⟩ = some (.slice a1 l1.length c1) := by
  have h' := hO.on h.bl
  exact ⟨h.B.1, h.B.2, h'.e0, h'.e1, h'.e2, h'.e3, h'.e4⟩
theorem Ready.At4 {w : World} {kind : Int} {n : Nat} {op : Int} {name : List UInt8} {a : Option Addr} {len c : Nat} {w1 : World} (h : Ready w kind n op name a len c w1) {S : Nat → Prop} {b o : Nat} {k1 : Int} {n1 : Nat} {o1 : Int} {m1 : List UInt8} {a1 : Option Addr} {l1 : List Ex} {c1 : Nat} (hO : One w S b o k1 n1 o1 m1 a1 l1 c1) (v0 v1 v2 v3 : Value) {W : World} (hW : W = ((((w1.setCell ⟨w.heap.size + 1, 0, none⟩ v0).setCell ⟨w.heap.size + 1, 1, none⟩ v1).setCell ⟨w.heap.size + 1, 2, none⟩ v2).setCell ⟨w.heap.size + 1, 3, none⟩ v3)) :
    W.cell? ⟨w.heap.size, 3, none⟩ = some (.string (bs name)) ∧ W.cell? ⟨w.heap.size, 4, none⟩ = some (.slice a len c) ∧ W.cell? ⟨b, o, none⟩ = some (.int .i64 k1) ∧ W.cell? ⟨b, o + 1, none⟩ = some (.int .u32 (n1 : Nat)) ∧ W.cell? ⟨b, o + 2, none⟩ = some (.int .i64 o1) ∧ W.cell? ⟨b, o + 3, none⟩ = some (.string (bs m1)) ∧ W.cell? ⟨b, o + 4, none⟩ = some (.slice a1 l1.length c1) := by
  have hlt := hO.lt
  have e : ∀ k q, k ≤ w.heap.size → W.cell? ⟨k, q, none⟩ = w1.cell? ⟨k, q, none⟩ := fun k q hk => World.cell?_of_block (by rw [hW]; exact set4o (i := k) (by omega))
  rw [e _ _ (Nat.le_refl _), e _ _ (Nat.le_refl _), e b _ (by omega), e b _ (by omega), e b _ (by omega), e b _ (by omega), e b _ (by omega)]
  exact h.At hO
set_option maxRecDepth 100000 in
set_option maxHeartbeats 4000000 in
theorem expr_at_yes {m B : Nat} {S : Nat → Prop} (hN : ExprN m) (name : List UInt8) (k1 : Int) (n1 : Nat) (o1 : Int) (m1 : List UInt8) (l1 : List Ex) (a : Option Addr) (c : Nat) (w : World) (hg : Glob B w) (hr : exR w S a [.mk k1 n1 o1 m1 l1]) (hm : exW (.mk k1 n1 o1 m1 l1) ≤ m) (hm' : exW (.mk k1 n1 o1 m1 l1) ≤ 1000000) (hok : exOk (.mk k1 n1 o1 m1 l1)) (hn : isName name = true) (il2 : Bool) (wd2 : List UInt8) (ks2 : List Nd) (p2 : Int) (hs : shE (.mk k1 n1 o1 m1 l1) = some (.mk il2 wd2 ks2 p2)) : Calls Tryz.prog 90 #[exV 3 0 0 name a 1 c] w (Shows NdV w (shE (.mk 3 0 0 name [.mk k1 n1 o1 m1 l1]))) := by
  have HF : Hid (shE (.mk 3 0 0 name [.mk k1 n1 o1 m1 l1]) = some (fm [97, 116] [lf name, .mk il2 wd2 ks2 p2])) := by
    show _ = _
    rw [shE, if_neg (by omega), if_neg (by omega), if_pos rfl, if_pos ⟨rfl, rfl, rfl⟩, shName, if_pos hn, shEs, hs, shEs]; rfl
  obtain ⟨b, o, a1, c1, rfl, hO⟩ := One.of hr
  have HN : Hid (∀ w1, Ready w 3 0 0 name (some ⟨b, o, none⟩) 1 c w1 → Calls Tryz.prog 90 #[exV k1 n1 o1 m1 a1 l1.length c1] w1 (Shows NdV w1 (some (.mk il2 wd2 ks2 p2)))) := fun w1 h1 => by
    rw [← hs]
    exact hN _ B S w1 _ hm hm' hok (hg.below h1.bl) ⟨a1, c1, rfl, hO.le, (hO.on h1.bl).row⟩
  have hnm := nameNode_any name
  rw [shName, if_pos hn] at hnm
  have HO : Hid _ := hO
  clear hs hN hr hok hn hm hm' hO
  have R0 : Ready w 3 0 0 name (some ⟨b, o, none⟩) 1 c ((w.alloc (exO 3 0 0 name (some ⟨b, o, none⟩) 1 c)).alloc nd0) := Below.refl _ _
  have hlt := HO.out.lt
  go_enter Tryz.func90, Tryz.ntmps90
  go_wp2_with (first | (go_at_call 75; refine (must_yes _).mono ?_; rintro e w9 ⟨rfl, rfl⟩))
  generalize (w.alloc (exO 3 0 0 name (some ⟨b, o, none⟩) 1 c)).alloc nd0 = w1 at R0 ⊢
  have R1 : Ready w 3 0 0 name (some ⟨b, o, none⟩) 1 c w1.drew := R0.on (drew_bl w1)
  have s1 := R0.At HO.out
  have sz1 := R0.size
  go_region_held3 (fun w' => w'.cell? ⟨w.heap.size, 3, none⟩ = some (.string (bs name)) ∧ w'.cell? ⟨w.heap.size, 4, none⟩ = some (.slice (some ⟨b, o, none⟩) 1 c) ∧ w'.cell? ⟨b, o, none⟩ = some (.int .i64 k1) ∧ w'.cell? ⟨b, o + 1, none⟩ = some (.int .u32 (n1 : Nat)) ∧ w'.cell? ⟨b, o + 2, none⟩ = some (.int .i64 o1) ∧ w'.cell? ⟨b, o + 3, none⟩ = some (.string (bs m1)) ∧ w'.cell? ⟨b, o + 4, none⟩ = some (.slice a1 l1.length c1))
    (first | with_reducible exact R5.At4 HO.out _ _ _ _ rfl | with_reducible exact R5.At HO.out | with_reducible exact (R3.alloc _).At HO.out | with_reducible exact R3.At HO.out | with_reducible exact R2.At HO.out | with_reducible exact R1.At HO.out | go_keep)
    (first | (go_at_call 77; refine (hnm _).mono ?_; rintro e w2 hG2; obtain ⟨v2, rfl, a2, k2, rfl, hc2, hr2⟩ := hG2.ok _ rfl; have R2 := R1.on hG2.below; have sz2 := R2.size) | (go_at_call 90; refine (HN.out _ R2).mono ?_; rintro e w3 hG3; obtain ⟨v3, rfl, a3, k3, rfl, hc3, hr3⟩ := hG3.ok _ rfl; have R3 := R2.on hG3.below; have sz3 := R3.size; have hro := two_row (il1 := false) (wd1 := name) (p1 := 0) (il2 := il2) (wd2 := wd2) (p2 := p2) (S := fun b => w.heap.size + 2 ≤ b) hc2 (kNd.row_mono (by decide) (row_on hr2 hG3.below) (fun i hi _ => ⟨by have : w1.heap.size ≤ i := hi; omega, rfl⟩)) hc3 (kNd.row_mono (by decide) hr3 (fun i hi _ => ⟨by omega, rfl⟩)); have hfo := form_any [97, 116] (some ⟨w3.heap.size, 0, none⟩) [.mk false name [] 0, .mk il2 wd2 ks2 p2] 2 _ hro (by simp)) | (go_at_call 76; refine hfo.mono ?_; rintro e w5 ⟨⟨v5, rfl, a5, k5, rfl, hc5, hr5⟩, hb5⟩; have R5 := (R3.alloc _).on hb5; obtain ⟨_, _, q0, q1, q2, q3, z0, z1, z2, z3⟩ := R5.S))
  obtain ⟨hres, _, hz5, hbw5⟩ := res_ready R5
  have HB5 : Hid (Below w.heap.size w w5) := hbw5
  have HRW : Hid _ := hr5
  clear hbw5 hr5 hfo R1 R2 R3 R5 hb5 hG3 hG2 hro hr2 hr3 R0 s1
  go_wp2_with fail
  refine bodyPost_ret_by (results_row Tryz.results90 rfl (load_nd (set4c hres) rfl)) rfl (.ofOk HF.out (bl_set4 HB5.out _ _ _ _ _ (by omega)) ⟨a5, k5, rfl, hc5, kNd.row_mono (by decide) HRW.out fun i hi _ => ?_⟩)
  have h2 : w.heap.size + 2 ≤ i := by
    rcases hi with (h | h) | h
    · exact h
    · omega
    · simp at h; omega
  exact ⟨by omega, set4o (by omega)⟩
set_option maxRecDepth 100000 in
set_option maxHeartbeats 4000000 in
theorem expr_at_name {S : Nat → Prop} (name : List UInt8) (k1 : Int) (n1 : Nat) (o1 : Int) (m1 : List UInt8) (l1 : List Ex) (a : Option Addr) (c : Nat) (w : World) (hr : exR w S a [.mk k1 n1 o1 m1 l1]) (hn : isName name = false) : Calls Tryz.prog 90 #[exV 3 0 0 name a 1 c] w (Shows NdV w (shE (.mk 3 0 0 name [.mk k1 n1 o1 m1 l1]))) := by
  have HF : Hid (shE (.mk 3 0 0 name [.mk k1 n1 o1 m1 l1]) = none) := by
    show _ = _
    rw [shE, if_neg (by omega), if_neg (by omega), if_pos rfl, if_pos ⟨rfl, rfl, rfl⟩, shName, hn]; rfl
  obtain ⟨b, o, a1, c1, rfl, hO⟩ := One.of hr
  have hnm := nameNode_any name
  have hns : shName name = none := by rw [shName, hn]; rfl
  rw [hns] at hnm
  have HO : Hid _ := hO
  clear hr hn hO hns
  have R0 : Ready w 3 0 0 name (some ⟨b, o, none⟩) 1 c ((w.alloc (exO 3 0 0 name (some ⟨b, o, none⟩) 1 c)).alloc nd0) := Below.refl _ _
  have hlt := HO.out.lt
  go_enter Tryz.func90, Tryz.ntmps90
  go_wp2_with (first | (go_at_call 75; refine (must_yes _).mono ?_; rintro e w9 ⟨rfl, rfl⟩))
  generalize (w.alloc (exO 3 0 0 name (some ⟨b, o, none⟩) 1 c)).alloc nd0 = w1 at R0 ⊢
  have R1 : Ready w 3 0 0 name (some ⟨b, o, none⟩) 1 c w1.drew := R0.on (drew_bl w1)
  obtain ⟨q3, q4, s0, s1, s2, s3, s4⟩ := R0.At HO.out
  go_region_law (first | (refine step_call rfl 77 _ _ rfl #[.string (bs name)] (by simp [go_sem, Act.eval]) ?_; refine (hnm _).mono ?_; rintro e w2 hG2; obtain rfl := hG2.bad rfl; refine (fun (_ : wpAny Tryz.prog Region.Mode.any #[] (fun _ _ _ => True) 0 #[] ⟨#[], []⟩ w1) => ⟨rfl, .ofBad HF.out (bl_then R1.bl hG2.below)⟩) ?_))
  all_goals trivial
set_option maxRecDepth 100000 in
set_option maxHeartbeats 4000000 in
theorem expr_at_arg {m B : Nat} {S : Nat → Prop} (hN : ExprN m) (name : List UInt8) (k1 : Int) (n1 : Nat) (o1 : Int) (m1 : List UInt8) (l1 : List Ex) (a : Option Addr) (c : Nat) (w : World) (hg : Glob B w) (hr : exR w S a [.mk k1 n1 o1 m1 l1]) (hm : exW (.mk k1 n1 o1 m1 l1) ≤ m) (hm' : exW (.mk k1 n1 o1 m1 l1) ≤ 1000000) (hok : exOk (.mk k1 n1 o1 m1 l1)) (hn : isName name = true) (hs : shE (.mk k1 n1 o1 m1 l1) = none) : Calls Tryz.prog 90 #[exV 3 0 0 name a 1 c] w (Shows NdV w (shE (.mk 3 0 0 name [.mk k1 n1 o1 m1 l1]))) := by
  have HF : Hid (shE (.mk 3 0 0 name [.mk k1 n1 o1 m1 l1]) = none) := by
    show _ = _
    rw [shE, if_neg (by omega), if_neg (by omega), if_pos rfl, if_pos ⟨rfl, rfl, rfl⟩, shName, if_pos hn, shEs, hs]; rfl
  obtain ⟨b, o, a1, c1, rfl, hO⟩ := One.of hr
  have HN : Hid (∀ w1, Ready w 3 0 0 name (some ⟨b, o, none⟩) 1 c w1 → Calls Tryz.prog 90 #[exV k1 n1 o1 m1 a1 l1.length c1] w1 (Shows NdV w1 none)) := fun w1 h1 => by
    rw [← hs]
    exact hN _ B S w1 _ hm hm' hok (hg.below h1.bl) ⟨a1, c1, rfl, hO.le, (hO.on h1.bl).row⟩
  have hnm := nameNode_any name
  rw [shName, if_pos hn] at hnm
  have HO : Hid _ := hO
  clear hs hN hr hok hn hm hm' hO
  have R0 : Ready w 3 0 0 name (some ⟨b, o, none⟩) 1 c ((w.alloc (exO 3 0 0 name (some ⟨b, o, none⟩) 1 c)).alloc nd0) := Below.refl _ _
  have hlt := HO.out.lt
  go_enter Tryz.func90, Tryz.ntmps90
  go_wp2_with (first | (go_at_call 75; refine (must_yes _).mono ?_; rintro e w9 ⟨rfl, rfl⟩))
  generalize (w.alloc (exO 3 0 0 name (some ⟨b, o, none⟩) 1 c)).alloc nd0 = w1 at R0 ⊢
  have R1 : Ready w 3 0 0 name (some ⟨b, o, none⟩) 1 c w1.drew := R0.on (drew_bl w1)
  obtain ⟨q3, q4, s0, s1, s2, s3, s4⟩ := R0.At HO.out
  go_region_law (first | (refine step_call rfl 77 _ _ rfl #[.string (bs name)] (by simp [go_sem, Act.eval]) ?_; refine (hnm _).mono ?_; rintro e w2 hG2; obtain ⟨v2, rfl, a2, k2, rfl, hc2, hr2⟩ := hG2.ok _ rfl; have R2 := R1.on hG2.below; obtain ⟨t3, t4, u0, u1, u2, u3, u4⟩ := R2.At HO.out) | (refine step_call rfl 90 _ _ rfl #[exV k1 n1 o1 m1 a1 l1.length c1] (by simp [go_sem, Act.eval]) ?_; refine (HN.out _ R2).mono ?_; rintro e w3 hG3; obtain rfl := hG3.bad rfl; refine (fun (_ : wpAny Tryz.prog Region.Mode.any #[] (fun _ _ _ => True) 0 #[] ⟨#[], []⟩ w1) => ⟨rfl, .ofBad HF.out (bl_then R2.bl hG3.below)⟩) ?_))
  all_goals trivial
end Go.Proofs.YtbpdhegfdmppgaaGreatDoor.Sh

/- CONTRACT of exprNode, for all expressions. -/
namespace Go.Proofs.YtbpdhegfdmppgaaGreatDoor.Sh
open Go.ChangeShapes Go.WideShapes Go.ChangeAt Go.RowKit

set_option maxRecDepth 100000 in
set_option maxHeartbeats 2000000 in
theorem expr_at_no (n : Nat) (op : Int) (name : List UInt8) (l : List Ex) (a : Option Addr) (c : Nat) (w : World) (h : ¬ (n = 0 ∧ op = 0 ∧ l.length = 1)) : Calls Tryz.prog 90 #[exV 3 n op name a l.length c] w (Shows NdV w (shE (.mk 3 n op name l))) := by
  have HF : Hid (shE (.mk 3 n op name l) = none) := by show _ = _; rw [shE, if_neg (by omega), if_neg (by omega), if_pos rfl, if_neg h]
  by_cases hc0 : n = 0
  · by_cases hc1 : op = 0
    · have g2 : ((l.length : Int) == 1) = false := by
        have : ¬ l.length = 1 := fun e => h ⟨hc0, hc1, e⟩
        simp; omega
      subst hc0 hc1
      clear h
      go_enter Tryz.func90, Tryz.ntmps90
      go_wp2_with (first | (go_at_call 75; refine (must_no _).mono ?_; rintro e w2 ⟨rfl, rfl⟩))
      exact ⟨rfl, .ofBad HF.out (bl_two _ _ _)⟩
    · have g1 : (op == 0) = false := by simpa using hc1
      subst hc0
      clear h
      go_enter Tryz.func90, Tryz.ntmps90
      go_wp2_with (first | (go_at_call 75; refine (must_no _).mono ?_; rintro e w2 ⟨rfl, rfl⟩))
      exact ⟨rfl, .ofBad HF.out (bl_two _ _ _)⟩
  · have g1 : (((n : Nat) : Int) == 0) = false := by simpa using hc0
    obtain ⟨z, hz⟩ : ∃ z : Int, z = (n : Int) := ⟨_, rfl⟩
    simp only [exV, ← hz] at g1 ⊢
    clear hz h hc0
    go_enter Tryz.func90, Tryz.ntmps90
    go_wp2_with (first | (go_at_call 75; refine (must_no _).mono ?_; rintro e w2 ⟨rfl, rfl⟩))
    exact ⟨rfl, .ofBad HF.out (bl_two _ _ _)⟩
set_option maxRecDepth 100000 in
set_option maxHeartbeats 2000000 in
theorem expr_call_no {B : Nat} (n : Nat) (op : Int) (name : List UInt8) (l : List Ex) (a : Option Addr) (c : Nat) (w : World) (hg : Glob B w) (hnl : name.length ≤ 1000000) (h : ¬ (n = 0 ∧ op = 0 ∧ isFullB name = true ∧ l.length ≤ 6)) : Calls Tryz.prog 90 #[exV 6 n op name a l.length c] w (Shows NdV w (shE (.mk 6 n op name l))) := by
  have HF : Hid (shE (.mk 6 n op name l) = none) := by show _ = _; rw [shE, if_neg (by omega), if_neg (by omega), if_neg (by omega), if_neg (by omega), if_neg (by omega), if_pos rfl, if_neg h]
  by_cases hc0 : n = 0
  · by_cases hc1 : op = 0
    · have hfa := full_any name ((w.alloc (exO 6 0 0 name a l.length c)).alloc nd0) (by omega) ((hg.alloc _).alloc _)
      rcases hfu : isFullB name with _ | _ <;> rw [hfu] at hfa
      · subst hc0 hc1
        clear h hfu
        go_enter Tryz.func90, Tryz.ntmps90
        go_wp2_with (first | (go_at_call 113; refine hfa.mono ?_; rintro e w1 ⟨rfl, hb1⟩; obtain ⟨cb, hz1⟩ := Ready.C hb1) | (go_at_call 75; refine (must_no _).mono ?_; rintro e w2 ⟨rfl, rfl⟩))
        exact ⟨rfl, .ofBad HF.out (bl_then (bl_two _ _ _) hb1)⟩
      · have g2 : ¬ (l.length : Int) ≤ 6 := by
          have : ¬ l.length ≤ 6 := fun e => h ⟨hc0, hc1, hfu, e⟩
          omega
        have g3 : decide ((l.length : Int) ≤ 6) = false := by simp; omega
        have g4 : (6 : Int) < (l.length : Int) := by omega
        clear g2
        subst hc0 hc1
        clear h hfu
        go_enter Tryz.func90, Tryz.ntmps90
        go_wp2_with (first | (go_at_call 113; refine hfa.mono ?_; rintro e w1 ⟨rfl, hb1⟩; obtain ⟨cb, hz1⟩ := Ready.C hb1) | (go_at_call 75; refine (must_no _).mono ?_; rintro e w2 ⟨rfl, rfl⟩))
        exact ⟨rfl, .ofBad HF.out (bl_then (bl_two _ _ _) hb1)⟩
    · have g1 : (op == 0) = false := by simpa using hc1
      subst hc0
      clear h
      go_enter Tryz.func90, Tryz.ntmps90
      go_wp2_with (first | (go_at_call 75; refine (must_no _).mono ?_; rintro e w2 ⟨rfl, rfl⟩))
      exact ⟨rfl, .ofBad HF.out (bl_two _ _ _)⟩
  · have g1 : (((n : Nat) : Int) == 0) = false := by simpa using hc0
    obtain ⟨z, hz⟩ : ∃ z : Int, z = (n : Int) := ⟨_, rfl⟩
    simp only [exV, ← hz] at g1 ⊢
    clear hz h hc0
    go_enter Tryz.func90, Tryz.ntmps90
    go_wp2_with (first | (go_at_call 75; refine (must_no _).mono ?_; rintro e w2 ⟨rfl, rfl⟩))
    exact ⟨rfl, .ofBad HF.out (bl_two _ _ _)⟩

theorem expr_all : ∀ m, ExprN m := by
  intro m
  induction m with
  | zero =>
    intro x B S w v hm
    obtain ⟨k, n, o, nm, l⟩ := x
    rw [exW] at hm
    omega
  | succ m ih =>
    intro x B S w v hm hm' hok hg hv
    obtain ⟨kind, n, op, name, l⟩ := x
    obtain ⟨a, c, rfl, hc, hr⟩ := hv
    rw [exW] at hm hm'
    rw [exOk] at hok
    obtain ⟨hn, hok⟩ := hok
    by_cases h1 : kind = 1
    · subst h1; exact expr_num n op name l a c w hg hn
    by_cases h2 : kind = 2
    · subst h2; exact expr_var n op name l a c w
    by_cases h3 : kind = 3
    · subst h3
      by_cases hq : n = 0 ∧ op = 0 ∧ l.length = 1
      · obtain ⟨rfl, rfl, hl⟩ := hq
        obtain ⟨x, rfl⟩ : ∃ x, l = [x] := List.length_eq_one_iff.1 hl
        obtain ⟨k1, n1, o1, m1, l1⟩ := x
        have e1 : exWs [.mk k1 n1 o1 m1 l1] = exW (.mk k1 n1 o1 m1 l1) := by rw [exWs, exWs]; omega
        rw [e1] at hm hm'
        have hok1 : exOk (.mk k1 n1 o1 m1 l1) := by rw [exOks] at hok; exact hok.1
        rcases hnm : isName name with _ | _
        · exact expr_at_name name k1 n1 o1 m1 l1 a c w hr hnm
        · cases hs : shE (.mk k1 n1 o1 m1 l1) with
          | none => exact expr_at_arg ih name k1 n1 o1 m1 l1 a c w hg hr (by omega) (by omega) hok1 hnm hs
          | some z =>
            obtain ⟨il, wd, ks, p⟩ := z
            exact expr_at_yes ih name k1 n1 o1 m1 l1 a c w hg hr (by omega) (by omega) hok1 hnm il wd ks p hs
      · exact expr_at_no n op name l a c w hq
    by_cases h4 : kind = 4
    · subst h4; exact expr_bin ih n op name l a c w hg hr (by omega) (by omega) hok
    by_cases h5 : kind = 5
    · subst h5; exact expr_sel ih n op name l a c w hg hr (by omega) (by omega) hok
    by_cases h6 : kind = 6
    · subst h6
      by_cases hq : n = 0 ∧ op = 0 ∧ isFullB name = true ∧ l.length ≤ 6
      · obtain ⟨rfl, rfl, hfu, hl6⟩ := hq
        cases hs : shEs l with
        | none => exact expr_call_args ih name l a c w hg hr (by omega) (by omega) hok (by omega) hfu hl6 hs
        | some zs => exact expr_call_yes ih name l a c w hg hr (by omega) (by omega) hok (by omega) hfu hl6 zs hs
      · exact expr_call_no n op name l a c w hg (by omega) hq
    exact expr_none kind n op name l a c w h1 h2 h3 h4 h5 h6
theorem expr_any {B : Nat} {S : Nat → Prop} (x : Ex) (w : World) (v : Value) (hm : exW x ≤ 1000000) (hok : exOk x) (hg : Glob B w) (hv : ExV w S v x) : Calls Tryz.prog 90 #[v] w (Shows NdV w (shE x)) :=
  expr_all (exW x) x B S w v (Nat.le_refl _) hm hok hg hv
end Go.Proofs.YtbpdhegfdmppgaaGreatDoor.Sh
