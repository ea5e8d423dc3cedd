/- CONTRACTS of the statements' own Light, and of Same at one list that lies twice. -/
import Derived.Test.YtlagadofiahijaaDoorFRow
import Derived.Deep.Draws
import Derived.WalkSmall
import Derived.Laws.StructEq
namespace Go.Proofs.YtlagadofiahijaaDoor
open Go.ChangeShapes Go.WideShapes Go.ChangeAt Go.RowKit

theorem ty_fields : Tryd.prog.underlying 38 = some (.struct (Tryd.prog.fieldsOf 38)) := by kernel_rfl
theorem ty_held : Tryd.prog.stoodInHeld 38 = false := by kernel_rfl
theorem neq_ty (b : Bool) (n : Int) (w : World) : (binOp .neq 38 (.agg #[.bool b, .int .i64 n]) (.agg #[.bool b, .int .i64 n])).run Tryd.prog w = .ok (.bool false) w := by
  rw [run_neq_struct, show (10000 : Nat) = 9999 + 1 from rfl, run_equalIn_agg w 9999 38 _ _ ty_fields ty_held]
  have u3 := Tryd.underlying3
  have a3 := Tryd.isAgg3
  have z3 := Tryd.sizeOf3
  have u4 := Tryd.underlying4
  have a4 := Tryd.isAgg4
  have z4 := Tryd.sizeOf4
  simp only [Program.fieldsOf, Tryd.underlying38]
  go_simp

def lightX (x : Sg) : Bool := decide (x.name.length ≤ 200) && decide (x.ps.length ≤ 50)
def lightB (l : List Sg) : Bool := decide (l.length ≤ 200) && l.all lightX
theorem light_drop (l : List Sg) (k : Nat) (hk : k < l.length) : (l.drop k).all lightX = (lightX l[k] && (l.drop (k + 1)).all lightX) := by
  rw [List.drop_eq_getElem_cons hk, List.all_cons]

set_option maxRecDepth 100000 in
set_option maxHeartbeats 1000000 in
theorem same_refl {S T : Nat → Prop} (w : World) (a b : Option Addr) (l : List Sg) (c d : Nat) (hR1 : kSg.row w S a l) (hR2 : kSg.row w T b l) (hl : l.length ≤ 1000000000) (hp : ∀ x ∈ l, x.ps.length ≤ 1000000000) :
    Calls Tryd.prog 8 #[.slice a l.length c, .slice b l.length d] w fun e w' => e = .returned (.bool true) ∧ Below w.heap.size w w' := by
  go_enter Tryd.func8, Tryd.ntmps8
  go_wp2
  go_loopw [5] (fun i wr => ∃ k : Nat, k ≤ l.length ∧ i = .int .i64 k ∧ Below w.heap.size w wr) (fun i _ => l.length - (intOf i).toNat)
  case atStart => exact ⟨0, Nat.zero_le _, rfl, Below.refl _ _⟩
  case round =>
    obtain ⟨k, hk, rfl, hbl⟩ := hrel
    have HB : Hid (Below w.heap.size w wr) := hbl
    by_cases hlt : k < l.length
    · obtain ⟨b1, o1, pa, pc, rfl, hS1, hb1, h0, h1, h2, hpc, hrow⟩ := sg_at hR1 k hlt
      obtain ⟨b2, o2, qa, qc, rfl, hS2, hb2, g0, g1, g2, hqc, hqow⟩ := sg_at hR2 k hlt
      have e0 := (hbl.cell (p := ⟨b1, o1 + k * 3, none⟩) hb1).trans h0
      have e1 := (hbl.cell (p := ⟨b1, o1 + k * 3 + 1, none⟩) hb1).trans h1
      have e2 := (hbl.cell (p := ⟨b1, o1 + k * 3 + 2, none⟩) hb1).trans h2
      have d0 := (hbl.cell (p := ⟨b2, o2 + k * 3, none⟩) hb2).trans g0
      have d1 := (hbl.cell (p := ⟨b2, o2 + k * 3 + 1, none⟩) hb2).trans g1
      have d2 := (hbl.cell (p := ⟨b2, o2 + k * 3 + 2, none⟩) hb2).trans g2
      have hpk : l[k].ps.length ≤ 1000000000 := hp _ (List.getElem_mem hlt)
      have hnm : ((bs l[k].name).toList == (bs l[k].name).toList) = true := by simp
      have HW : Hid (∀ j (hj : j < l[k].ps.length), ∃ x1 y1 x2 y2, pa = some ⟨x1, y1, none⟩ ∧ qa = some ⟨x2, y2, none⟩ ∧ x1 < w.heap.size ∧ x2 < w.heap.size ∧ w.cell? ⟨x1, y1 + j * 2, none⟩ = some (.bool l[k].ps[j].sec) ∧ w.cell? ⟨x1, y1 + j * 2 + 1, none⟩ = some (.int .i64 l[k].ps[j].len) ∧ w.cell? ⟨x2, y2 + j * 2, none⟩ = some (.bool l[k].ps[j].sec) ∧ w.cell? ⟨x2, y2 + j * 2 + 1, none⟩ = some (.int .i64 l[k].ps[j].len)) := fun j hj => by
        obtain ⟨x1, y1, h1, _, h2, h3, h4⟩ := ty_at hrow j hj
        obtain ⟨x2, y2, g1, _, g2, g3, g4⟩ := ty_at hqow j hj
        exact ⟨x1, y1, x2, y2, h1, g1, h2, g2, h3, h4, g3, g4⟩
      have H1 : Hid _ := h1
      have G1 : Hid _ := g1
      clear h0 h1 h2 g0 g1 g2 hbl hrow hqow hS1 hS2 hR1 hR2
      have hk0 : (0 : Int) ≤ (k : Int) := by omega
      have hk1 : (k : Int) < (l.length : Int) := by omega
      go_wp2_with fail
      go_quiet (fail)
      go_wp2_with fail
      have HQ : Hid (Below w.heap.size w (wr.drewN nq)) := bl_then HB.out ⟨rfl, rfl, rfl, Nat.le_refl _, fun _ _ => rfl⟩
      clear e0 e1 e2 d0 d1 d2
      go_loopw [6] (fun j wy => ∃ m : Nat, m ≤ l[k].ps.length ∧ j = .int .i64 m ∧ Below w.heap.size w wy) (fun j _ => l[k].ps.length - (intOf j).toNat)
      case atStart => exact ⟨0, Nat.zero_le _, rfl, HQ.out⟩
      case round =>
        obtain ⟨m, hm, rfl, hby⟩ := hrel
        have HY : Hid (Below w.heap.size w wr) := hby
        have e1 := (hby.cell (p := ⟨b1, o1 + k * 3 + 1, none⟩) hb1).trans H1.out
        have d1 := (hby.cell (p := ⟨b2, o2 + k * 3 + 1, none⟩) hb2).trans G1.out
        have hk0 : (0 : Int) ≤ (k : Int) := by omega
        have hk1 : (k : Int) < (l.length : Int) := by omega
        by_cases hmt : m < l[k].ps.length
        · obtain ⟨x1, y1, x2, y2, rfl, rfl, hx1, hx2, t1, t2, t3, t4⟩ := HW.out m hmt
          have u1 := (hby.cell (p := ⟨x1, y1 + m * 2, none⟩) hx1).trans t1
          have u2 := (hby.cell (p := ⟨x1, y1 + m * 2 + 1, none⟩) hx1).trans t2
          have u3 := (hby.cell (p := ⟨x2, y2 + m * 2, none⟩) hx2).trans t3
          have u4 := (hby.cell (p := ⟨x2, y2 + m * 2 + 1, none⟩) hx2).trans t4
          have hm0 : (0 : Int) ≤ (m : Int) := by omega
          have hm1 : (m : Int) < (l[k].ps.length : Int) := by omega
          clear t1 t2 t3 t4 hby
          have hne := neq_ty l[k].ps[m].sec l[k].ps[m].len
          go_wp2_with fail
          go_quiet (fail)
          go_wp2_with fail
          go_roundw
          case rel => exact ⟨m + 1, by omega, by go_num, bl_then HY.out ⟨rfl, rfl, rfl, Nat.le_refl _, fun _ _ => rfl⟩⟩
          case measure => simp [intOf]; omega
        · clear hby
          go_wp2_with fail
          go_roundw
          case rel => exact ⟨k + 1, by omega, by go_num, HY.out⟩
          case measure => simp [intOf]; omega
    · go_wp2_with fail
      go_ret
      exact ⟨rfl, HB.out⟩
end Go.Proofs.YtlagadofiahijaaDoor
