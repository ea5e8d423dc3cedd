/- Texts of this proof, put together: SSame. -/
import Derived.Test.YtbpdhegfdmppgaaGreatDoorM47
import Derived.Test.YtbpdhegfdmppgaaGreatDoorM49

/- CONTRACT of carlingref03.Same at one unit that lies twice. -/
namespace Go.Proofs.YtbpdhegfdmppgaaGreatDoor.Sh
open Go.ChangeShapes Go.WideShapes Go.ChangeAt Go.RowKit

abbrev FS9 (b q : Nat) (name : List UInt8) (s1 : Value) (sec : Bool) (s3 : Value) (k : Int) (m : Nat) (o : Int) (nm : List UInt8) (s8 : Value) (w : World) : Prop :=
  w.cell? ⟨b, q, none⟩ = some (.string (bs name)) ∧ w.cell? ⟨b, q + 1, none⟩ = some s1 ∧ w.cell? ⟨b, q + 2, none⟩ = some (.bool sec) ∧ w.cell? ⟨b, q + 3, none⟩ = some s3 ∧ w.cell? ⟨b, q + 4, none⟩ = some (.int .i64 k) ∧ w.cell? ⟨b, q + 5, none⟩ = some (.int .u32 m) ∧ w.cell? ⟨b, q + 6, none⟩ = some (.int .i64 o) ∧ w.cell? ⟨b, q + 7, none⟩ = some (.string (bs nm)) ∧ w.cell? ⟨b, q + 8, none⟩ = some s8
theorem FS9.on {b q : Nat} {name : List UInt8} {s1 : Value} {sec : Bool} {s3 : Value} {k : Int} {m : Nat} {o : Int} {nm : List UInt8} {s8 : Value} {w w' : World} (H : FS9 b q name s1 sec s3 k m o nm s8 w) (hb : Below w.heap.size w w') : FS9 b q name s1 sec s3 k m o nm s8 w' := by
  obtain ⟨h0, h1, h2, h3, h4, h5, h6, h7, h8⟩ := H
  exact ⟨cell_up hb h0, cell_up hb h1, cell_up hb h2, cell_up hb h3, cell_up hb h4, cell_up hb h5, cell_up hb h6, cell_up hb h7, cell_up hb h8⟩
set_option maxRecDepth 100000 in
set_option maxHeartbeats 8000000 in
theorem same_any {S T : Nat → Prop} (name : List UInt8) (imports : List (List UInt8)) (funcs : List Fu) (x1 x2 y1 y2 : Option Addr) (xc1 xc2 yc1 yc2 : Nat) (w : World) (hi : imports.length ≤ 1000000000) (hf : funcs.length ≤ 1000000000)
    (hok : ∀ f ∈ funcs, f.params.length ≤ 1000000000 ∧ smWs f.body ≤ 1000000000 ∧ exW f.result ≤ 1000000000) (r1 : kStr.row w S x1 imports) (r2 : kFu.row w S x2 funcs) (r1' : kStr.row w T y1 imports) (r2' : kFu.row w T y2 funcs) :
    Calls Tryz.prog 13 #[.agg #[.string (bs name), .slice x1 imports.length xc1, .slice x2 funcs.length xc2], .agg #[.string (bs name), .slice y1 imports.length yc1, .slice y2 funcs.length yc2]] w fun e w' => e = .returned (.bool true) ∧ Below w.heap.size w w' := by
  have hb0 := bl_two w (.cells #[.string (bs name), .slice x1 imports.length xc1, .slice x2 funcs.length xc2] 30) (.cells #[.string (bs name), .slice y1 imports.length yc1, .slice y2 funcs.length yc2] 30)
  obtain ⟨g1, g2⟩ := at_two w (.cells #[.string (bs name), .slice x1 imports.length xc1, .slice x2 funcs.length xc2] 30) (.cells #[.string (bs name), .slice y1 imports.length yc1, .slice y2 funcs.length yc2] 30)
  go_enter Tryz.func13, Tryz.ntmps13
  go_wp2_with fail
  generalize (w.alloc (.cells #[.string (bs name), .slice x1 imports.length xc1, .slice x2 funcs.length xc2] 30)).alloc (.cells #[.string (bs name), .slice y1 imports.length yc1, .slice y2 funcs.length yc2] 30) = w0 at hb0 g1 g2 ⊢
  have lt1 := lt_of_some g1
  have lt2 := lt_of_some g2
  have p1 : w0.cell? ⟨w.heap.size, 1, none⟩ = some (.slice x1 imports.length xc1) := by simp [World.cell?, g1]
  have p2 : w0.cell? ⟨w.heap.size, 2, none⟩ = some (.slice x2 funcs.length xc2) := by simp [World.cell?, g1]
  have q1 : w0.cell? ⟨w.heap.size + 1, 1, none⟩ = some (.slice y1 imports.length yc1) := by simp [World.cell?, g2]
  have q2 : w0.cell? ⟨w.heap.size + 1, 2, none⟩ = some (.slice y2 funcs.length yc2) := by simp [World.cell?, g2]
  clear g1 g2
  go_loopw [5] (fun i wr => ∃ j dd : Nat, j ≤ imports.length ∧ i = .int .i64 j ∧ wr = w0.drewN dd) (fun i _ => imports.length - (intOf i).toNat)
  case atStart => exact ⟨0, 0, Nat.zero_le _, rfl, rfl⟩
  case round =>
    obtain ⟨j, dd, hj, rfl, hwr⟩ := hrel
    have HW := Lib.hid hwr
    have b00 : Below w0.heap.size w0 wr := by rw [hwr]; exact ⟨rfl, rfl, rfl, Nat.le_refl _, fun _ _ => rfl⟩
    have hbl := bl_then hb0 b00
    have HB := Lib.hid hbl
    have pr1 := cell_up b00 p1
    have qr1 := cell_up b00 q1
    have pr2 := cell_up b00 p2
    have qr2 := cell_up b00 q2
    clear hwr
    by_cases hlt : j < imports.length
    · obtain ⟨b, o1, rfl, f0⟩ := lstr_at (kStr.row_mono (T := S) (by decide) r1 fun b hS hlt => ⟨hS, hbl.block b hlt⟩) j hlt
      obtain ⟨b', o1', rfl, f0'⟩ := lstr_at (kStr.row_mono (T := T) (by decide) r1' fun b hS hlt => ⟨hS, hbl.block b hlt⟩) j hlt
      have hj0 : (0 : Int) ≤ (j : Int) := by omega
      have hj1 : (j : Int) < (imports.length : Int) := by omega
      clear hbl r1 r1' r2 r2' hok p1 p2 q1 q2
      go_wp2_with fail
      go_quiet (fail)
      go_wp2_with fail
      go_roundw
      case rel => exact ⟨j + 1, dd + nq, by omega, by go_num, by rw [HW.out, World.drewN_drewN]⟩
      case measure => simp [intOf]; omega
    · have hlt' : ¬ (j : Int) < (imports.length : Int) := by omega
      clear p1 p2 q1 q2 b00 HW
      go_wp2_with fail
      clear hlt hlt'
      go_loopw [6] (fun i wz => ∃ j : Nat, j ≤ funcs.length ∧ i = .int .i64 j ∧ Below wr.heap.size wr wz) (fun i _ => funcs.length - (intOf i).toNat)
      case atStart => exact ⟨0, Nat.zero_le _, rfl, Below.refl _ _⟩
      case round =>
        obtain ⟨j, hj, rfl, hbz⟩ := hrel
        have HZ := Lib.hid hbz
        have bz := bl_then hbl hbz
        have ps2 := cell_up hbz pr2
        have qs2 := cell_up hbz qr2
        by_cases hlt : j < funcs.length
        · obtain ⟨b, q, nm, params, sec, body, k, m, o, nn, ls, a1, c1, a2, c2, a3, c3, rfl, hx, hltb, hcs, u3, s1, s2, s3⟩ := lfu_at (kFu.row_mono (T := S) (by decide) r2 fun b hS hlt => ⟨hS, bz.block b hlt⟩) j hlt
          obtain ⟨b', q', nm', params', sec', body', k', m', o', nn', ls', a1', c1', a2', c2', a3', c3', rfl, hx', hltb', hcs', u3', s1', s2', s3'⟩ := lfu_at (kFu.row_mono (T := T) (by decide) r2' fun b hS hlt => ⟨hS, bz.block b hlt⟩) j hlt
          rw [hx] at hx'
          injection hx' with i1 i2 i3 i4 i5
          injection i5 with j1 j2 j3 j4 j5
          subst i1 i2 i3 i4 j1 j2 j3 j4 j5
          have hfo := hok funcs[j] (List.getElem_mem hlt)
          rw [hx] at hfo
          have B1 : Below wr.heap.size wr wr.drew := drew_bl wr
          have bd := bl_then bz B1
          have hF : Hid (Calls Tryz.prog 36 #[.agg #[.string (bs nm), .slice a1 params.length c1, .bool sec, .slice a2 body.length c2, .int .i64 k, .int .u32 m, .int .i64 o, .string (bs nn), .slice a3 ls.length c3], .agg #[.string (bs nm), .slice a1' params.length c1', .bool sec, .slice a2' body.length c2', .int .i64 k, .int .u32 m, .int .i64 o, .string (bs nn), .slice a3' ls.length c3']] wr.drew fun e w' => e = .returned (.bool true) ∧ Below wr.drew.heap.size wr.drew w') :=
            sameFu_any (S := S) (T := T) nm params sec body k m o nn ls a1 a2 a3 a1' a2' a3' c1 c2 c3 c1' c2' c3' wr.drew hfo.1 hfo.2.1 hfo.2.2 u3 u3' (kPa.row_mono (by decide) s1 fun b hS hlt => ⟨hS, B1.block b hlt⟩) (smR_mono (fun b hS hlt => ⟨hS, B1.block b hlt⟩) s2) (exR_mono (fun b hS hlt => ⟨hS, B1.block b hlt⟩) s3) (kPa.row_mono (by decide) s1' fun b hS hlt => ⟨hS, B1.block b hlt⟩) (smR_mono (fun b hS hlt => ⟨hS, B1.block b hlt⟩) s2') (exR_mono (fun b hS hlt => ⟨hS, B1.block b hlt⟩) s3')
          have hst : (wr.cell? ⟨w.heap.size, 2, none⟩ = some (.slice (some ⟨b, q, none⟩) funcs.length xc2) ∧ wr.cell? ⟨w.heap.size + 1, 2, none⟩ = some (.slice (some ⟨b', q', none⟩) funcs.length yc2)) ∧ FS9 b (q + j * 9) nm (.slice a1 params.length c1) sec (.slice a2 body.length c2) k m o nn (.slice a3 ls.length c3) wr ∧ FS9 b' (q' + j * 9) nm (.slice a1' params.length c1') sec (.slice a2' body.length c2') k m o nn (.slice a3' ls.length c3') wr := ⟨⟨ps2, qs2⟩, hcs, hcs'⟩
          have S1 : (wr.drew.cell? ⟨w.heap.size, 2, none⟩ = some (.slice (some ⟨b, q, none⟩) funcs.length xc2) ∧ wr.drew.cell? ⟨w.heap.size + 1, 2, none⟩ = some (.slice (some ⟨b', q', none⟩) funcs.length yc2)) ∧ FS9 b (q + j * 9) nm (.slice a1 params.length c1) sec (.slice a2 body.length c2) k m o nn (.slice a3 ls.length c3) wr.drew ∧ FS9 b' (q' + j * 9) nm (.slice a1' params.length c1') sec (.slice a2' body.length c2') k m o nn (.slice a3' ls.length c3') wr.drew := ⟨⟨cell_up B1 ps2, cell_up B1 qs2⟩, hst.2.1.on B1, hst.2.2.on B1⟩
          have hj0 : (0 : Int) ≤ (j : Int) := by omega
          have hj1 : (j : Int) < (funcs.length : Int) := by omega
          clear hx hfo hok r1 r1' r2 r2' s1 s2 s3 s1' s2' s3' hcs hcs' hbz bz bd hst pr1 pr2 qr1 qr2 hbl
          go_wp2_with fail
          go_region_held3 (fun w' => (w'.cell? ⟨w.heap.size, 2, none⟩ = some (.slice (some ⟨b, q, none⟩) funcs.length xc2) ∧ w'.cell? ⟨w.heap.size + 1, 2, none⟩ = some (.slice (some ⟨b', q', none⟩) funcs.length yc2)) ∧ FS9 b (q + j * 9) nm (.slice a1 params.length c1) sec (.slice a2 body.length c2) k m o nn (.slice a3 ls.length c3) w' ∧ FS9 b' (q' + j * 9) nm (.slice a1' params.length c1') sec (.slice a2' body.length c2') k m o nn (.slice a3' ls.length c3') w')
            (first | with_reducible exact S2 | with_reducible exact S1)
            (first | (go_at_call 36; refine hF.out.mono ?_; rintro e w2 ⟨rfl, hb2⟩; have B2 := bl_then B1 hb2; have S2 := And.intro (And.intro (cell_up hb2 S1.1.1) (cell_up hb2 S1.1.2)) (And.intro (S1.2.1.on hb2) (S1.2.2.on hb2))))
          all_goals
            go_wp2_with fail
            go_roundw
            case rel => exact ⟨j + 1, by omega, by go_num, bl_then HZ.out B2⟩
            case measure => simp [intOf]; omega
        · go_wp2_with fail
          go_ret
          exact ⟨rfl, bl_then HB.out HZ.out⟩
end Go.Proofs.YtbpdhegfdmppgaaGreatDoor.Sh
