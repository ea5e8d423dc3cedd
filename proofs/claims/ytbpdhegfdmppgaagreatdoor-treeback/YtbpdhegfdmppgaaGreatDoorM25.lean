/- Texts of this proof, put together: SBare. -/
import Derived.Test.YtbpdhegfdmppgaaGreatDoorM24
import Derived.Test.YtbpdhegfdmppgaaGreatDoorM19
import Derived.Deep.Draws
import Derived.WalkSmall
import Derived.Laws.StructEq

/- CONTRACTS of isNone and isBare. -/
namespace Go.Proofs.YtbpdhegfdmppgaaGreatDoor.Sh
open Go.ChangeShapes Go.WideShapes Go.ChangeAt Go.RowKit

theorem nil_bs (s : List UInt8) : (bs s).toList.isEmpty = s.isEmpty := by rw [bs_tl]
theorem len_bool {α : Type} (l : List α) : ((l.length : Int) == 0) = l.isEmpty := by cases l <;> simp; omega
theorem isNil_eq (kind : Int) (n : Nat) (op : Int) (name : List UInt8) (l : List Ex) : (Ex.mk kind n op name l).isNil = ((kind == 0) && ((((n : Nat) : Int) == 0) && ((op == 0) && ((bs name).toList.isEmpty && ((l.length : Int) == 0))))) := by
  rw [nil_bs, len_bool, Ex.isNil]
  have e1 : (((n : Nat) : Int) == 0) = decide (n = 0) := by
    rw [Bool.eq_iff_iff]; simp
  rw [e1]
  rfl
set_option maxRecDepth 100000 in
set_option maxHeartbeats 2000000 in
theorem isNone_any (kind : Int) (n : Nat) (op : Int) (name : List UInt8) (l : List Ex) (a : Option Addr) (c : Nat) (w : World) : Calls Tryz.prog 120 #[exV kind n op name a l.length c] w fun e w' => e = .returned (.bool (Ex.isNil (.mk kind n op name l))) ∧ Below w.heap.size w w' := by
  have HF : Hid _ := isNil_eq kind n op name l
  obtain ⟨z, hz⟩ : ∃ z : Int, z = ((n : Nat) : Int) := ⟨_, rfl⟩
  simp only [exV, ← hz] at HF ⊢
  clear hz
  rcases hk : (kind == 0) with _ | _ <;> rw [hk] at HF
  rotate_left
  rcases hn : (z == 0) with _ | _ <;> rw [hn] at HF
  rotate_left
  rcases ho : (op == 0) with _ | _ <;> rw [ho] at HF
  rotate_left
  rcases hm : (bs name).toList.isEmpty with _ | _ <;> rw [hm] at HF
  rotate_left
  rcases hl : ((l.length : Int) == 0) with _ | _ <;> rw [hl] at HF
  all_goals
    go_enter Tryz.func120, Tryz.ntmps120
    go_wp2_with fail
    go_ret
    exact ⟨ret_bool (by rw [HF.out]; simp), bl_alloc (Below.refl _ _) _⟩
theorem ty_fields : Tryz.prog.underlying 77 = some (.struct (Tryz.prog.fieldsOf 77)) := by kernel_rfl
theorem ty_held : Tryz.prog.stoodInHeld 77 = false := by kernel_rfl
theorem eql_ty (b : Bool) (n : Int) (w : World) : (binOp .eql 77 (.agg #[.bool b, .int .i64 n]) (.agg #[.bool false, .int .i64 0])).run Tryz.prog w = .ok (.bool (!b && (n == 0))) w := by
  rw [run_eql_struct, show (10000 : Nat) = 9999 + 1 from rfl, run_equalIn_agg w 9999 77 _ _ ty_fields ty_held]
  have u3 := Tryz.underlying3
  have a3 := Tryz.isAgg3
  have z3 := Tryz.sizeOf3
  have u4 := Tryz.underlying4
  have a4 := Tryz.isAgg4
  have z4 := Tryz.sizeOf4
  simp only [Program.fieldsOf, Tryz.underlying77]
  cases b
  · go_simp
    by_cases h : n = 0 <;> simp [h]
  · go_simp
/-- The cells of a statement. -/
abbrev smA (kind : Int) (name : List UInt8) (sec : Bool) (len fr to k1 : Int) (n1 : Nat) (o1 : Int) (m1 : List UInt8) (a1 : Option Addr) (z1 c1 : Nat) (k2 : Int) (n2 : Nat) (o2 : Int) (m2 : List UInt8) (a2 : Option Addr) (z2 c2 : Nat) (a3 : Option Addr) (z3 c3 : Nat) (a4 : Option Addr) (z4 c4 : Nat) : Array Value :=
  #[.int .i64 kind, .string (bs name), .bool sec, .int .i64 len, .int .i64 fr, .int .i64 to, .int .i64 k1, .int .u32 n1, .int .i64 o1, .string (bs m1), .slice a1 z1 c1, .int .i64 k2, .int .u32 n2, .int .i64 o2, .string (bs m2), .slice a2 z2 c2, .slice a3 z3 c3, .slice a4 z4 c4]
/-- Has a statement nothing but a kind? -/
def bareB (name : List UInt8) (sec : Bool) (len fr to : Int) (ix e : Ex) (body els : List Sm) : Bool := name.isEmpty && ((!sec && (len == 0)) && ((fr == 0) && ((to == 0) && (ix.isNil && (e.isNil && (body.isEmpty && els.isEmpty))))))
set_option maxRecDepth 100000 in
set_option maxHeartbeats 4000000 in
theorem isBare_any (cs : Array Value) (kind : Int) (name : List UInt8) (sec : Bool) (len fr to k1 : Int) (n1 : Nat) (o1 : Int) (m1 : List UInt8) (l1 : List Ex) (k2 : Int) (n2 : Nat) (o2 : Int) (m2 : List UInt8) (l2 : List Ex) (body els : List Sm) (a1 : Option Addr) (c1 : Nat) (a2 : Option Addr) (c2 : Nat) (a3 : Option Addr) (c3 : Nat) (a4 : Option Addr) (c4 : Nat) (w : World)
    (hcs : cs = smA kind name sec len fr to k1 n1 o1 m1 a1 l1.length c1 k2 n2 o2 m2 a2 l2.length c2 a3 body.length c3 a4 els.length c4) :
    Calls Tryz.prog 110 #[.agg cs] w fun e w' => e = .returned (.bool (bareB name sec len fr to (.mk k1 n1 o1 m1 l1) (.mk k2 n2 o2 m2 l2) body els)) ∧ Below w.heap.size w w' := by
  have HF : Hid (bareB name sec len fr to (.mk k1 n1 o1 m1 l1) (.mk k2 n2 o2 m2 l2) body els = ((bs name).toList.isEmpty && ((!sec && (len == 0)) && ((fr == 0) && ((to == 0) && ((Ex.mk k1 n1 o1 m1 l1).isNil && ((Ex.mk k2 n2 o2 m2 l2).isNil && (((body.length : Int) == 0) && ((els.length : Int) == 0))))))))) := by show _ = _; rw [nil_bs, len_bool, len_bool]; rfl
  have q1 : cs[1]? = some (.string (bs name)) := by rw [hcs]; rfl
  have q2 : cs[2]? = some (.bool sec) := by rw [hcs]; rfl
  have q3 : cs[3]? = some (.int .i64 len) := by rw [hcs]; rfl
  have q4 : cs[4]? = some (.int .i64 fr) := by rw [hcs]; rfl
  have q5 : cs[5]? = some (.int .i64 to) := by rw [hcs]; rfl
  have q6 : cs[6]? = some (.int .i64 k1) := by rw [hcs]; rfl
  have q7 : cs[7]? = some (.int .u32 n1) := by rw [hcs]; rfl
  have q8 : cs[8]? = some (.int .i64 o1) := by rw [hcs]; rfl
  have q9 : cs[9]? = some (.string (bs m1)) := by rw [hcs]; rfl
  have q10 : cs[10]? = some (.slice a1 l1.length c1) := by rw [hcs]; rfl
  have q11 : cs[11]? = some (.int .i64 k2) := by rw [hcs]; rfl
  have q12 : cs[12]? = some (.int .u32 n2) := by rw [hcs]; rfl
  have q13 : cs[13]? = some (.int .i64 o2) := by rw [hcs]; rfl
  have q14 : cs[14]? = some (.string (bs m2)) := by rw [hcs]; rfl
  have q15 : cs[15]? = some (.slice a2 l2.length c2) := by rw [hcs]; rfl
  have q16 : cs[16]? = some (.slice a3 body.length c3) := by rw [hcs]; rfl
  have q17 : cs[17]? = some (.slice a4 els.length c4) := by rw [hcs]; rfl
  clear hcs
  have hty := eql_ty sec len
  have hi1 := isNone_any k1 n1 o1 m1 l1 a1 c1
  have hi2 := isNone_any k2 n2 o2 m2 l2 a2 c2
  obtain ⟨z1, hz1⟩ : ∃ z : Int, z = ((n1 : Nat) : Int) := ⟨_, rfl⟩
  obtain ⟨z2, hz2⟩ : ∃ z : Int, z = ((n2 : Nat) : Int) := ⟨_, rfl⟩
  simp only [exV, ← hz1] at q7 hi1
  simp only [exV, ← hz2] at q12 hi2
  clear hz1 hz2
  generalize (Ex.mk k1 n1 o1 m1 l1).isNil = x1 at HF hi1
  generalize (Ex.mk k2 n2 o2 m2 l2).isNil = x2 at HF hi2
  generalize (!sec && (len == 0)) = ty at HF hty
  rcases hm : (bs name).toList.isEmpty with _ | _ <;> rw [hm] at HF
  rotate_left
  cases ty
  rotate_left
  rcases hfr : (fr == 0) with _ | _ <;> rw [hfr] at HF
  rotate_left
  rcases hto : (to == 0) with _ | _ <;> rw [hto] at HF
  rotate_left
  cases x1
  rotate_left
  cases x2
  rotate_left
  rcases hbo : ((body.length : Int) == 0) with _ | _ <;> rw [hbo] at HF
  rotate_left
  rcases hel : ((els.length : Int) == 0) with _ | _ <;> rw [hel] at HF
  all_goals
    have CB : Hid (∀ w1 : World, Below (w.alloc (.cells cs 110)).heap.size (w.alloc (.cells cs 110)) w1 → (∀ i : Nat, w1.cell? ⟨w.heap.size, i, none⟩ = cs[i]?) ∧ w.heap.size < w1.heap.size) := fun w1 hb => by
      have hh : w1.heap[w.heap.size]? = some (.cells cs 110) := by rw [hb.block _ (by simp)]; exact heap_alloc_new w _
      exact ⟨fun i => by simp [World.cell?, hh], lt_of_some hh⟩
    obtain ⟨cb0, hz0⟩ := CB.out _ (Below.refl _ _)
    go_enter Tryz.func110, Tryz.ntmps110
    go_wp2_with (first | (go_at_call_of 120 (Value.agg #[.int .i64 k1, .int .u32 z1, .int .i64 o1, .string (bs m1), .slice a1 l1.length c1]); refine (hi1 _).mono ?_; rintro e w1 ⟨rfl, hb1⟩; obtain ⟨cb1, hz1⟩ := CB.out _ hb1; clear hi1) | (go_at_call 120; refine (hi2 _).mono ?_; rintro e w2 ⟨rfl, hb2⟩; obtain ⟨cb2, hz2⟩ := CB.out _ (bl_then hb1 hb2)))
    go_ret
    exact ⟨ret_bool (by rw [HF.out]; simp), by first | exact bl_then (bl_then (bl_alloc (Below.refl _ _) _) hb1) hb2 | exact bl_then (bl_alloc (Below.refl _ _) _) hb1 | exact bl_alloc (Below.refl _ _) _⟩
end Go.Proofs.YtbpdhegfdmppgaaGreatDoor.Sh
