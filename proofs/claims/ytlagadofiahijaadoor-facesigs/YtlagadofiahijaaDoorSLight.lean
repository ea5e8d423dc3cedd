/- CONTRACT of carlingref03.Light: what is light is not heavy. -/
import Derived.Test.YtlagadofiahijaaDoorSFuAt
import Derived.Test.YtlagadofiahijaaDoorSBase
import Derived.Test.YtlagadofiahijaaDoorSHeavy
import Derived.Deep.CutRange
namespace Go.Proofs.YtlagadofiahijaaDoor.Sh
open Go.ChangeShapes Go.WideShapes Go.ChangeAt Go.RowKit

/-- What Light reads of a function that lies in a block. -/
abbrev FuS (g : Nat) (name : List UInt8) (s1 s3 : Value) (k : Int) (m : Nat) (o : Int) (nm : List UInt8) (s8 : Value) (w : World) : Prop :=
  w.cell? ⟨g, 0, none⟩ = some (.string (bs name)) ∧ w.cell? ⟨g, 1, none⟩ = some s1 ∧ w.cell? ⟨g, 3, none⟩ = some s3 ∧ w.cell? ⟨g, 4, none⟩ = some (.int .i64 k) ∧ w.cell? ⟨g, 5, none⟩ = some (.int .u32 m) ∧ w.cell? ⟨g, 6, none⟩ = some (.int .i64 o) ∧ w.cell? ⟨g, 7, none⟩ = some (.string (bs nm)) ∧ w.cell? ⟨g, 8, none⟩ = some s8
theorem FuS.on {g : Nat} {name : List UInt8} {s1 s3 : Value} {k : Int} {m : Nat} {o : Int} {nm : List UInt8} {s8 : Value} {w w' : World} (h : FuS g name s1 s3 k m o nm s8 w) (hb : Below w.heap.size w w') : FuS g name s1 s3 k m o nm s8 w' := by
  have hlt : g < w.heap.size := World.block_lt_of_cell? w _ h.1
  have ce : ∀ o, w'.cell? ⟨g, o, none⟩ = w.cell? ⟨g, o, none⟩ := fun o => World.cell?_of_block (hb.block g hlt)
  simp only [FuS, ce]
  exact h
/-- One expression, laid in a new block. -/
theorem ex_one {w : World} {S : Nat → Prop} {k : Int} {m : Nat} {o : Int} {nm : List UInt8} {ls : List Ex} {a : Option Addr} {c : Nat} (t : TypeId) (h : ls.length ≤ c) (r : exR w S a ls) :
    kEx.row (w.alloc (.cells #[.int .i64 k, .int .u32 m, .int .i64 o, .string (bs nm), .slice a ls.length c] t)) (fun b => S b ∨ b = w.heap.size) (some ⟨w.heap.size, 0, none⟩) [.mk k m o nm ls] :=
  kEx.lay_blk (cs := [.int .i64 k, .int .u32 m, .int .i64 o, .string (bs nm), .slice a ls.length c])
    ⟨[.int .i64 k, .int .u32 m, .int .i64 o, .string (bs nm), .slice a ls.length c], [], by simp, by show exC _ _ _ _; rw [exC]; exact ⟨a, c, rfl, h, r⟩, rfl⟩
def LightOk (fs : List Fu) : Prop := ∀ f ∈ fs, smWs f.body ≤ 3000 ∧ exW f.result ≤ 3000 ∧ f.params.length ≤ 3000 ∧ f.name.length ≤ 3000
/-- What Light tells. -/
def LightGives (nm : List UInt8) (fs : List Fu) (e : Ending) : Prop := ∃ b : Bool, e = .returned (.bool b) ∧ (b = true → LightOk fs ∧ fs.length ≤ 3000 ∧ nm.length ≤ 3000)
set_option maxRecDepth 100000 in
set_option maxHeartbeats 8000000 in
theorem light_any {S : Nat → Prop} (w : World) (name : List UInt8) (imports : List (List UInt8)) (funcs : List Fu) (a1 : Option Addr) (c1 : Nat) (a2 : Option Addr) (c2 : Nat) (r1 : kStr.row w S a1 imports) (r2 : kFu.row w S a2 funcs) :
    Calls Tryd.prog 5 #[.agg #[.string (bs name), .slice a1 imports.length c1, .slice a2 funcs.length c2]] w fun e w' => Below w.heap.size w w' ∧ LightGives name funcs e := by
  have hz : (bs name).size = name.length := bs_size name
  have R1 : kStr.row (w.alloc (.cells #[.string (bs name), .slice a1 imports.length c1, .slice a2 funcs.length c2] 25)) S a1 imports := kStr.row_mono (by decide) r1 fun b hS hlt => ⟨hS, heap_alloc_old w _ hlt⟩
  have R2 : kFu.row (w.alloc (.cells #[.string (bs name), .slice a1 imports.length c1, .slice a2 funcs.length c2] 25)) S a2 funcs := kFu.row_mono (by decide) r2 fun b hS hlt => ⟨hS, heap_alloc_old w _ hlt⟩
  have hb0 : Below w.heap.size w (w.alloc (.cells #[.string (bs name), .slice a1 imports.length c1, .slice a2 funcs.length c2] 25)) := bl_alloc (Below.refl _ _) _
  have hu : (w.alloc (.cells #[.string (bs name), .slice a1 imports.length c1, .slice a2 funcs.length c2] 25)).heap[w.heap.size]? = _ := heap_alloc_new w _
  clear r1 r2
  go_enter Tryd.func5, Tryd.ntmps5
  go_wp2_with fail
  generalize (w.alloc (.cells #[.string (bs name), .slice a1 imports.length c1, .slice a2 funcs.length c2] 25)) = w0 at R1 R2 hb0 hu ⊢
  have p1 : w0.cell? ⟨w.heap.size, 1, none⟩ = some (.slice a1 imports.length c1) := by simp [World.cell?, hu]
  have p2 : w0.cell? ⟨w.heap.size, 2, none⟩ = some (.slice a2 funcs.length c2) := by simp [World.cell?, hu]
  go_loop [3, 4] (fun x i => ∃ (k n : Nat), k ≤ imports.length ∧ i = .int .i64 k ∧ x = .int .i64 n ∧ (k ≤ n ∧ min name.length 100000 ≤ n) ∧ n ≤ 103001) (fun _ i => imports.length - (intOf i).toNat)
  case atStart => exact ⟨0, min name.length 100000, Nat.zero_le _, rfl, by simp; omega, by omega, by omega⟩
  case round =>
    obtain ⟨k, n, hk, rfl, rfl, hkn, hn1⟩ := hrel
    by_cases hlt : k < imports.length
    · by_cases hn : n < 3000
      · obtain ⟨b, q, rfl, h0⟩ := lstr_at R1 k hlt
        have hz1 : (bs imports[k]).size = imports[k].length := bs_size _
        have hk0 : (0 : Int) ≤ (k : Int) := by omega
        have hk1 : (k : Int) < (imports.length : Int) := by omega
        have hn' : (n : Int) < 3000 := by omega
        go_wp2_with fail
        go_round
        case rel => exact ⟨k + 1, n + 1 + min imports[k].length 100000, by omega, by go_num, by simp; omega, by omega, by omega⟩
        case measure => simp [intOf]; omega
      · have hn' : ¬ (n : Int) < 3000 := by omega
        have hn2 : decide ((n : Int) < 3000) = false := by simp; omega
        have hk0 : (0 : Int) ≤ (k : Int) := by omega
        have hk1 : (k : Int) < (imports.length : Int) := by omega
        go_wp2_with fail
        clear hn' hn2 hk0 hk1 hlt hn
        go_loopw [3, 5] (fun x i wr => ∃ (k n : Nat), k ≤ funcs.length ∧ i = .int .i64 k ∧ x = .int .i64 n ∧ (k ≤ n ∧ min name.length 100000 ≤ n) ∧ n ≤ 20000000000000000 ∧ Below w0.heap.size w0 wr ∧ (n < 3000 → LightOk (funcs.take k))) (fun _ i _ => funcs.length - (intOf i).toNat)
        case atStart => exact ⟨0, n, Nat.zero_le _, rfl, rfl, by omega, by omega, Below.refl _ _, fun _ f hf => by simp at hf⟩
        case round =>
          clear hk hkn hn1
          obtain ⟨k, n, hk, rfl, rfl, hkn, hn1, hbl, hok⟩ := hrel
          have HB := Lib.hid hbl
          have HK := Lib.hid hok
          have hltu : w.heap.size < w0.heap.size := World.block_lt_of_cell? w0 _ p2
          have p2r : wr.cell? ⟨w.heap.size, 2, none⟩ = some (.slice a2 funcs.length c2) := (hbl.cell (p := ⟨w.heap.size, 2, none⟩) hltu).trans p2
          have R2r : kFu.row wr S a2 funcs := kFu.row_mono (by decide) R2 fun b hS hlt => ⟨hS, hbl.block b hlt⟩
          clear hok
          by_cases hlt : k < funcs.length
          · by_cases hn : n < 3000
            · obtain ⟨b, q, nm, params, sec, body, e1, e2, e3, e4, ls, x1, d1, x2, d2, x3, d3, rfl, hx, hltb, ⟨f0, f1, f2, f3, f4, f5, f6, f7, f8⟩, hd3, g1, g2, g3⟩ := lfu_at R2r k hlt
              have hk0 : (0 : Int) ≤ (k : Int) := by omega
              have hk1 : (k : Int) < (funcs.length : Int) := by omega
              have hn' : (n : Int) < 3000 := by omega
              have hzn : (bs nm).size = nm.length := bs_size nm
              have HX := Lib.hid hx
              have G1 := Lib.hid g1
              have G2 := Lib.hid g2
              have G3 := Lib.hid g3
              have G4 := Lib.hid hd3
              have hltw : w.heap.size < wr.heap.size := World.block_lt_of_cell? wr _ p2r
              clear g1 g2 g3 hd3 hx R2r hbl p1 hu hz
              go_wp2_with fail
              obtain ⟨w1, hw1⟩ : ∃ w1, wr.alloc (.cells #[.string (bs nm), .slice x1 params.length d1, .bool sec, .slice x2 body.length d2, .int .i64 e1, .int .u32 e2, .int .i64 e3, .string (bs e4), .slice x3 ls.length d3] 51) = w1 := ⟨_, rfl⟩
              have hb1 : Below wr.heap.size wr w1 := by rw [← hw1]; exact bl_alloc (Below.refl _ _) _
              have hF : w1.heap[wr.heap.size]? = some (.cells #[.string (bs nm), .slice x1 params.length d1, .bool sec, .slice x2 body.length d2, .int .i64 e1, .int .u32 e2, .int .i64 e3, .string (bs e4), .slice x3 ls.length d3] 51 (0, 0)) := by rw [← hw1]; exact heap_alloc_new wr _
              have hst : FuS wr.heap.size nm (.slice x1 params.length d1) (.slice x2 body.length d2) e1 e2 e3 e4 (.slice x3 ls.length d3) w1 := by simp [FuS, World.cell?, hF]
              have hF1 : w1.cell? ⟨wr.heap.size, 1, none⟩ = some (.slice x1 params.length d1) := hst.2.1
              rw [hw1]
              clear hw1 hF f0 f1 f2 f3 f4 f5 f6 f7 f8
              have HST := Lib.hid hst
              have B1 : Below w1.heap.size w1 w1.drew := drew_bl w1
              have S1 := HST.out.on B1
              have S1a := fun o => HST.out.on (bl_then (bl_alloc (Below.refl _ w1) o) (drew_bl _))
              have HH : Hid (∀ w2, Below w1.heap.size w1 w2 → Calls Tryd.prog 13 #[.slice x2 body.length d2, .int .i64 3000, .int .i64 0] w2 fun e w' => e = .returned (.int .i64 (smH 31 body 0 : Nat)) ∧ Below w2.heap.size w2 w') := fun w2 hb => heavy_any 31 body S x2 d2 0 w2 rfl (sm_drop_on G2.out (bl_then hb1 hb))
              have HE : Hid (∀ (g : Nat) (w2 : World), Below w1.heap.size w1 w2 → w2.heap[g]? = some (.cells #[.int .i64 e1, .int .u32 e2, .int .i64 e3, .string (bs e4), .slice x3 ls.length d3] 49 (0, 0)) → Calls Tryd.prog 14 #[.slice (some ⟨g, 0, none⟩) 1 1, .int .i64 3000, .int .i64 0] w2 fun e w' => e = .returned (.int .i64 (exH 31 [.mk e1 e2 e3 e4 ls] 0 : Nat)) ∧ Below w2.heap.size w2 w') := fun g w2 hb hg =>
                (exHeavy_any 31 [.mk e1 e2 e3 e4 ls] (fun b => S b ∨ b = g) (some ⟨g, 0, none⟩) 1 0 w2 rfl ⟨g, 0, _, rfl, .inr rfl, cells_of hg, by show exC _ _ _ _; rw [exC]; exact ⟨x3, d3, rfl, G4.out, exR_mono (T := fun b => S b ∨ b = g) (fun i hi hlt => ⟨.inl hi, (bl_then hb1 hb).block i hlt⟩) G3.out⟩, trivial⟩).mono fun e w' ⟨h1, d, h2⟩ => ⟨h1, by rw [h2]; exact ⟨rfl, rfl, rfl, Nat.le_refl _, fun _ _ => rfl⟩⟩
              have b0 := exH_le 31 [.mk e1 e2 e3 e4 ls] 0
              have b1 := smH_le 31 body 0 (by omega)
              have HT1 := Lib.hid (exH_tells 31 [.mk e1 e2 e3 e4 ls] 0)
              have HT2 := Lib.hid (smH_tells 31 body 0)
              generalize exH 31 [.mk e1 e2 e3 e4 ls] 0 = E at HE b0 HT1
              generalize smH 31 body 0 = G at HH b1 HT2
              have c0 : E ≤ 4000000 := by omega
              have c1' : G ≤ 17179869180000000 := by omega
              clear b0 b1 hst
              have V : Hid (IntKind.i64.wrap ((n : Int) + 1) = (n : Int) + 1 ∧ IntKind.i64.wrap ((n : Int) + 1 + min (nm.length : Int) 100000) = (n : Int) + 1 + min (nm.length : Int) 100000 ∧ IntKind.i64.wrap ((n : Int) + 1 + min (nm.length : Int) 100000 + min (params.length : Int) 100000) = (n : Int) + 1 + min (nm.length : Int) 100000 + min (params.length : Int) 100000 ∧ IntKind.i64.wrap ((n : Int) + 1 + min (nm.length : Int) 100000 + min (params.length : Int) 100000 + G) = (n : Int) + 1 + min (nm.length : Int) 100000 + min (params.length : Int) 100000 + G ∧ IntKind.i64.wrap ((n : Int) + 1 + min (nm.length : Int) 100000 + min (params.length : Int) 100000 + G + E) = ((n + 1 + min nm.length 100000 + min params.length 100000 + G + E : Nat) : Int)) := ⟨Go.IntWalk.i64_in _ (by omega), Go.IntWalk.i64_in _ (by omega), Go.IntWalk.i64_in _ (by omega), Go.IntWalk.i64_in _ (by omega), by rw [Go.IntWalk.i64_in _ (by omega)]; omega⟩
              have lt1 : wr.heap.size < w1.heap.size := World.block_lt_of_cell? w1 _ hF1
              clear p2r hF1
              go_cut [3] from 33 to 90 (fun x wx => x = .int .i64 ((n + 1 + min nm.length 100000 + min params.length 100000 + G + E : Nat) : Int) ∧ Below w1.heap.size w1 wx)
              case first =>
                go_region_held3 (fun w' => FuS wr.heap.size nm (.slice x1 params.length d1) (.slice x2 body.length d2) e1 e2 e3 e4 (.slice x3 ls.length d3) w')
                  (first | with_reducible exact S3 | with_reducible exact S2a _ | with_reducible exact S2 | with_reducible exact S1a _ | with_reducible exact S1)
                  (first
                    | (go_at_call 13; show Calls _ _ _ ((w1.alloc _).drew) _; refine (HH.out _ (bl_then (bl_alloc (Below.refl _ w1) _) (drew_bl _))).mono ?_; rintro e w2 ⟨rfl, hb2⟩; have B2 : Below w1.heap.size w1 w2 := bl_then (bl_then (bl_alloc (Below.refl _ w1) _) (drew_bl _)) hb2; have S2 := HST.out.on B2; have hg2 : w2.heap[w1.heap.size]? = some (Obj.cells #[.int .i64 e1, .int .u32 e2, .int .i64 e3, .string (bs e4), .slice x3 ls.length d3] 49 (0, 0)) := (hb2.block _ (by simp)).trans (heap_alloc_new w1 _))
                    | (go_at_call 13; refine (HH.out _ B1).mono ?_; rintro e w2 ⟨rfl, hb2⟩; have B2 := bl_then B1 hb2; have S2 := HST.out.on B2; have S2a := fun o => HST.out.on (bl_alloc B2 o))
                    | (go_at_call 14; show Calls _ _ _ (w2.alloc _) _; refine (HE.out w2.heap.size (w2.alloc _) (bl_alloc B2 _) (heap_alloc_new w2 _)).mono ?_; rintro e w3 ⟨rfl, hb3⟩; have B3 : Below w1.heap.size w1 w3 := bl_then (bl_alloc B2 _) hb3; have S3 := HST.out.on B3)
                    | (go_at_call 14; refine (HE.out w1.heap.size w2 B2 hg2).mono ?_; rintro e w3 ⟨rfl, hb3⟩; have B3 : Below w1.heap.size w1 w3 := bl_then B2 hb3; have S3 := HST.out.on B3))
                all_goals
                  obtain ⟨v1, v2, v3, v4, v5⟩ := V.out
                  simp only [v1, v2, v3, v4, v5]
                  go_wp2_with fail
                  go_meet
                  exact ⟨rfl, B3⟩
              case rest =>
                obtain ⟨rfl, B3⟩ := hcut
                clear V HH HE S1 S1a B1
                obtain ⟨N, hN⟩ : ∃ N, n + 1 + min nm.length 100000 + min params.length 100000 + G + E = N := ⟨_, rfl⟩
                have HN := Lib.hid hN
                rw [hN]
                have hNb : N ≤ 20000000000000000 := by omega
                have hNk : k + 1 ≤ N ∧ n ≤ N := by omega
                have hNp : N < 3000 → params.length ≤ 3000 := fun h => by omega
                have HO : Hid (N < 3000 → LightOk (funcs.take (k + 1))) := fun h => by
                  have t1 := HT1.out (by omega)
                  have t2 := HT2.out (by omega)
                  rw [exWs, exWs] at t1
                  intro f hf
                  rw [List.take_succ_eq_append_getElem hlt] at hf
                  rcases List.mem_append.1 hf with hf | hf
                  · exact HK.out hn f hf
                  · have hf' : f = funcs[k] := by simpa using hf
                    rw [hf', HX.out]
                    exact ⟨by show smWs body ≤ 3000; omega, by show exW (.mk e1 e2 e3 e4 ls) ≤ 3000; omega, by show params.length ≤ 3000; omega, by show nm.length ≤ 3000; omega⟩
                clear hN HT1 HT2 HX HK
                have BW : Hid (Below w0.heap.size w0 wc) := bl_then HB.out (bl_then hb1 B3)
                have hF3 : wc.cell? ⟨wr.heap.size, 1, none⟩ = some (.slice x1 params.length d1) := (HST.out.on B3).2.1
                have R3 : kPa.row wc S x1 params := kPa.row_mono (by decide) G1.out fun b hS hlt => ⟨hS, (bl_then hb1 B3).block b hlt⟩
                clear B3 hb1 HST G1 G2 G3 G4
                go_wp2_with fail
                by_cases hN3 : N < 3000
                · have hpl := hNp hN3
                  clear hNp
                  go_loop [3, 7] (fun x i => ∃ (j m : Nat), j ≤ params.length ∧ i = .int .i64 j ∧ x = .int .i64 m ∧ N ≤ m ∧ m ≤ 20000000000000000) (fun _ i => params.length - (intOf i).toNat)
                  case atStart => exact ⟨0, N, Nat.zero_le _, rfl, rfl, Nat.le_refl _, hNb⟩
                  case round =>
                    obtain ⟨j, m, hj, rfl, rfl, hm1, hm2⟩ := hrel
                    by_cases hjl : j < params.length
                    · have hj0 : (0 : Int) ≤ (j : Int) := by omega
                      have hj1 : (j : Int) < (params.length : Int) := by omega
                      by_cases hm : m < 3000
                      · obtain ⟨pb, pq, rfl, pc⟩ := lpa_at R3 j hjl
                        have hpz : (bs params[j].name).size = params[j].name.length := bs_size _
                        have hm' : (m : Int) < 3000 := by omega
                        go_wp2_with fail
                        go_round
                        case rel => exact ⟨j + 1, m + min params[j].name.length 100000, by omega, by go_num, by simp; omega, by omega, by omega⟩
                        case measure => simp [intOf]; omega
                      · have hm' : ¬ (m : Int) < 3000 := by omega
                        have hm3 : decide ((m : Int) < 3000) = false := by simp; omega
                        go_wp2_with fail
                        go_roundw
                        case rel => exact ⟨k + 1, m, by omega, by go_num, rfl, by omega, hm2, BW.out, fun h => by omega⟩
                        case measure => simp [intOf]; omega
                    · go_wp2_with fail
                      go_roundw
                      case rel => exact ⟨k + 1, m, by omega, by go_num, rfl, by omega, hm2, BW.out, fun h => HO.out hN3⟩
                      case measure => simp [intOf]; omega
                · have hN4 : ¬ (N : Int) < 3000 := by omega
                  have hN5 : decide ((N : Int) < 3000) = false := by simp; omega
                  go_loop [3, 7] (fun x i => x = .int .i64 N ∧ i = .int .i64 0) (fun _ _ => 0)
                  case atStart => exact ⟨rfl, rfl⟩
                  case round =>
                    obtain ⟨rfl, rfl⟩ := hrel
                    by_cases hpp : 0 < params.length
                    · have hpp' : (0 : Int) < (params.length : Int) := by omega
                      go_wp2_with fail
                      go_roundw
                      case rel => exact ⟨k + 1, N, by omega, by go_num, rfl, by omega, hNb, BW.out, fun h => by omega⟩
                      case measure => simp [intOf]; omega
                    · have hpp' : ¬ (0 : Int) < (params.length : Int) := by omega
                      have hpp2 : decide ((0 : Int) < (params.length : Int)) = false := decide_eq_false hpp'
                      go_wp2_with fail
                      go_roundw
                      case rel => exact ⟨k + 1, N, by omega, by go_num, rfl, by omega, hNb, BW.out, fun h => by omega⟩
                      case measure => simp [intOf]; omega
            · have hn' : ¬ (n : Int) < 3000 := by omega
              have hn2 : decide ((n : Int) < 3000) = false := by simp; omega
              go_wp2_with fail
              go_ret
              exact ⟨bl_then hb0 HB.out, false, rfl, fun h => by cases h⟩
          · have hkl : k = funcs.length := by omega
            go_wp2_with fail
            go_ret
            refine ⟨bl_then hb0 HB.out, decide ((n : Int) < 3000), rfl, fun h => ?_⟩
            have h3 := of_decide_eq_true h
            have := HK.out (by omega)
            rw [hkl, List.take_length] at this
            exact ⟨this, by omega, by omega⟩
    · go_wp2_with fail
      clear hlt
      go_loopw [3, 5] (fun x i wr => ∃ (k n : Nat), k ≤ funcs.length ∧ i = .int .i64 k ∧ x = .int .i64 n ∧ (k ≤ n ∧ min name.length 100000 ≤ n) ∧ n ≤ 20000000000000000 ∧ Below w0.heap.size w0 wr ∧ (n < 3000 → LightOk (funcs.take k))) (fun _ i _ => funcs.length - (intOf i).toNat)
      case atStart => exact ⟨0, n, Nat.zero_le _, rfl, rfl, by omega, by omega, Below.refl _ _, fun _ f hf => by simp at hf⟩
      case round =>
        clear hk hkn hn1
        obtain ⟨k, n, hk, rfl, rfl, hkn, hn1, hbl, hok⟩ := hrel
        have HB := Lib.hid hbl
        have HK := Lib.hid hok
        have hltu : w.heap.size < w0.heap.size := World.block_lt_of_cell? w0 _ p2
        have p2r : wr.cell? ⟨w.heap.size, 2, none⟩ = some (.slice a2 funcs.length c2) := (hbl.cell (p := ⟨w.heap.size, 2, none⟩) hltu).trans p2
        have R2r : kFu.row wr S a2 funcs := kFu.row_mono (by decide) R2 fun b hS hlt => ⟨hS, hbl.block b hlt⟩
        clear hok
        by_cases hlt : k < funcs.length
        · by_cases hn : n < 3000
          · obtain ⟨b, q, nm, params, sec, body, e1, e2, e3, e4, ls, x1, d1, x2, d2, x3, d3, rfl, hx, hltb, ⟨f0, f1, f2, f3, f4, f5, f6, f7, f8⟩, hd3, g1, g2, g3⟩ := lfu_at R2r k hlt
            have hk0 : (0 : Int) ≤ (k : Int) := by omega
            have hk1 : (k : Int) < (funcs.length : Int) := by omega
            have hn' : (n : Int) < 3000 := by omega
            have hzn : (bs nm).size = nm.length := bs_size nm
            have HX := Lib.hid hx
            have G1 := Lib.hid g1
            have G2 := Lib.hid g2
            have G3 := Lib.hid g3
            have G4 := Lib.hid hd3
            have hltw : w.heap.size < wr.heap.size := World.block_lt_of_cell? wr _ p2r
            clear g1 g2 g3 hd3 hx R2r hbl p1 hu hz
            go_wp2_with fail
            obtain ⟨w1, hw1⟩ : ∃ w1, wr.alloc (.cells #[.string (bs nm), .slice x1 params.length d1, .bool sec, .slice x2 body.length d2, .int .i64 e1, .int .u32 e2, .int .i64 e3, .string (bs e4), .slice x3 ls.length d3] 51) = w1 := ⟨_, rfl⟩
            have hb1 : Below wr.heap.size wr w1 := by rw [← hw1]; exact bl_alloc (Below.refl _ _) _
            have hF : w1.heap[wr.heap.size]? = some (.cells #[.string (bs nm), .slice x1 params.length d1, .bool sec, .slice x2 body.length d2, .int .i64 e1, .int .u32 e2, .int .i64 e3, .string (bs e4), .slice x3 ls.length d3] 51 (0, 0)) := by rw [← hw1]; exact heap_alloc_new wr _
            have hst : FuS wr.heap.size nm (.slice x1 params.length d1) (.slice x2 body.length d2) e1 e2 e3 e4 (.slice x3 ls.length d3) w1 := by simp [FuS, World.cell?, hF]
            have hF1 : w1.cell? ⟨wr.heap.size, 1, none⟩ = some (.slice x1 params.length d1) := hst.2.1
            rw [hw1]
            clear hw1 hF f0 f1 f2 f3 f4 f5 f6 f7 f8
            have HST := Lib.hid hst
            have B1 : Below w1.heap.size w1 w1.drew := drew_bl w1
            have S1 := HST.out.on B1
            have S1a := fun o => HST.out.on (bl_then (bl_alloc (Below.refl _ w1) o) (drew_bl _))
            have HH : Hid (∀ w2, Below w1.heap.size w1 w2 → Calls Tryd.prog 13 #[.slice x2 body.length d2, .int .i64 3000, .int .i64 0] w2 fun e w' => e = .returned (.int .i64 (smH 31 body 0 : Nat)) ∧ Below w2.heap.size w2 w') := fun w2 hb => heavy_any 31 body S x2 d2 0 w2 rfl (sm_drop_on G2.out (bl_then hb1 hb))
            have HE : Hid (∀ (g : Nat) (w2 : World), Below w1.heap.size w1 w2 → w2.heap[g]? = some (.cells #[.int .i64 e1, .int .u32 e2, .int .i64 e3, .string (bs e4), .slice x3 ls.length d3] 49 (0, 0)) → Calls Tryd.prog 14 #[.slice (some ⟨g, 0, none⟩) 1 1, .int .i64 3000, .int .i64 0] w2 fun e w' => e = .returned (.int .i64 (exH 31 [.mk e1 e2 e3 e4 ls] 0 : Nat)) ∧ Below w2.heap.size w2 w') := fun g w2 hb hg =>
              (exHeavy_any 31 [.mk e1 e2 e3 e4 ls] (fun b => S b ∨ b = g) (some ⟨g, 0, none⟩) 1 0 w2 rfl ⟨g, 0, _, rfl, .inr rfl, cells_of hg, by show exC _ _ _ _; rw [exC]; exact ⟨x3, d3, rfl, G4.out, exR_mono (T := fun b => S b ∨ b = g) (fun i hi hlt => ⟨.inl hi, (bl_then hb1 hb).block i hlt⟩) G3.out⟩, trivial⟩).mono fun e w' ⟨h1, d, h2⟩ => ⟨h1, by rw [h2]; exact ⟨rfl, rfl, rfl, Nat.le_refl _, fun _ _ => rfl⟩⟩
            have b0 := exH_le 31 [.mk e1 e2 e3 e4 ls] 0
            have b1 := smH_le 31 body 0 (by omega)
            have HT1 := Lib.hid (exH_tells 31 [.mk e1 e2 e3 e4 ls] 0)
            have HT2 := Lib.hid (smH_tells 31 body 0)
            generalize exH 31 [.mk e1 e2 e3 e4 ls] 0 = E at HE b0 HT1
            generalize smH 31 body 0 = G at HH b1 HT2
            have c0 : E ≤ 4000000 := by omega
            have c1' : G ≤ 17179869180000000 := by omega
            clear b0 b1 hst
            have V : Hid (IntKind.i64.wrap ((n : Int) + 1) = (n : Int) + 1 ∧ IntKind.i64.wrap ((n : Int) + 1 + min (nm.length : Int) 100000) = (n : Int) + 1 + min (nm.length : Int) 100000 ∧ IntKind.i64.wrap ((n : Int) + 1 + min (nm.length : Int) 100000 + min (params.length : Int) 100000) = (n : Int) + 1 + min (nm.length : Int) 100000 + min (params.length : Int) 100000 ∧ IntKind.i64.wrap ((n : Int) + 1 + min (nm.length : Int) 100000 + min (params.length : Int) 100000 + G) = (n : Int) + 1 + min (nm.length : Int) 100000 + min (params.length : Int) 100000 + G ∧ IntKind.i64.wrap ((n : Int) + 1 + min (nm.length : Int) 100000 + min (params.length : Int) 100000 + G + E) = ((n + 1 + min nm.length 100000 + min params.length 100000 + G + E : Nat) : Int)) := ⟨Go.IntWalk.i64_in _ (by omega), Go.IntWalk.i64_in _ (by omega), Go.IntWalk.i64_in _ (by omega), Go.IntWalk.i64_in _ (by omega), by rw [Go.IntWalk.i64_in _ (by omega)]; omega⟩
            have lt1 : wr.heap.size < w1.heap.size := World.block_lt_of_cell? w1 _ hF1
            clear p2r hF1
            go_cut [3] from 33 to 90 (fun x wx => x = .int .i64 ((n + 1 + min nm.length 100000 + min params.length 100000 + G + E : Nat) : Int) ∧ Below w1.heap.size w1 wx)
            case first =>
              go_region_held3 (fun w' => FuS wr.heap.size nm (.slice x1 params.length d1) (.slice x2 body.length d2) e1 e2 e3 e4 (.slice x3 ls.length d3) w')
                (first | with_reducible exact S3 | with_reducible exact S2a _ | with_reducible exact S2 | with_reducible exact S1a _ | with_reducible exact S1)
                (first
                  | (go_at_call 13; show Calls _ _ _ ((w1.alloc _).drew) _; refine (HH.out _ (bl_then (bl_alloc (Below.refl _ w1) _) (drew_bl _))).mono ?_; rintro e w2 ⟨rfl, hb2⟩; have B2 : Below w1.heap.size w1 w2 := bl_then (bl_then (bl_alloc (Below.refl _ w1) _) (drew_bl _)) hb2; have S2 := HST.out.on B2; have hg2 : w2.heap[w1.heap.size]? = some (Obj.cells #[.int .i64 e1, .int .u32 e2, .int .i64 e3, .string (bs e4), .slice x3 ls.length d3] 49 (0, 0)) := (hb2.block _ (by simp)).trans (heap_alloc_new w1 _))
                  | (go_at_call 13; refine (HH.out _ B1).mono ?_; rintro e w2 ⟨rfl, hb2⟩; have B2 := bl_then B1 hb2; have S2 := HST.out.on B2; have S2a := fun o => HST.out.on (bl_alloc B2 o))
                  | (go_at_call 14; show Calls _ _ _ (w2.alloc _) _; refine (HE.out w2.heap.size (w2.alloc _) (bl_alloc B2 _) (heap_alloc_new w2 _)).mono ?_; rintro e w3 ⟨rfl, hb3⟩; have B3 : Below w1.heap.size w1 w3 := bl_then (bl_alloc B2 _) hb3; have S3 := HST.out.on B3)
                  | (go_at_call 14; refine (HE.out w1.heap.size w2 B2 hg2).mono ?_; rintro e w3 ⟨rfl, hb3⟩; have B3 : Below w1.heap.size w1 w3 := bl_then B2 hb3; have S3 := HST.out.on B3))
              all_goals
                obtain ⟨v1, v2, v3, v4, v5⟩ := V.out
                simp only [v1, v2, v3, v4, v5]
                go_wp2_with fail
                go_meet
                exact ⟨rfl, B3⟩
            case rest =>
              obtain ⟨rfl, B3⟩ := hcut
              clear V HH HE S1 S1a B1
              obtain ⟨N, hN⟩ : ∃ N, n + 1 + min nm.length 100000 + min params.length 100000 + G + E = N := ⟨_, rfl⟩
              have HN := Lib.hid hN
              rw [hN]
              have hNb : N ≤ 20000000000000000 := by omega
              have hNk : k + 1 ≤ N ∧ n ≤ N := by omega
              have hNp : N < 3000 → params.length ≤ 3000 := fun h => by omega
              have HO : Hid (N < 3000 → LightOk (funcs.take (k + 1))) := fun h => by
                have t1 := HT1.out (by omega)
                have t2 := HT2.out (by omega)
                rw [exWs, exWs] at t1
                intro f hf
                rw [List.take_succ_eq_append_getElem hlt] at hf
                rcases List.mem_append.1 hf with hf | hf
                · exact HK.out hn f hf
                · have hf' : f = funcs[k] := by simpa using hf
                  rw [hf', HX.out]
                  exact ⟨by show smWs body ≤ 3000; omega, by show exW (.mk e1 e2 e3 e4 ls) ≤ 3000; omega, by show params.length ≤ 3000; omega, by show nm.length ≤ 3000; omega⟩
              clear hN HT1 HT2 HX HK
              have BW : Hid (Below w0.heap.size w0 wc) := bl_then HB.out (bl_then hb1 B3)
              have hF3 : wc.cell? ⟨wr.heap.size, 1, none⟩ = some (.slice x1 params.length d1) := (HST.out.on B3).2.1
              have R3 : kPa.row wc S x1 params := kPa.row_mono (by decide) G1.out fun b hS hlt => ⟨hS, (bl_then hb1 B3).block b hlt⟩
              clear B3 hb1 HST G1 G2 G3 G4
              go_wp2_with fail
              by_cases hN3 : N < 3000
              · have hpl := hNp hN3
                clear hNp
                go_loop [3, 7] (fun x i => ∃ (j m : Nat), j ≤ params.length ∧ i = .int .i64 j ∧ x = .int .i64 m ∧ N ≤ m ∧ m ≤ 20000000000000000) (fun _ i => params.length - (intOf i).toNat)
                case atStart => exact ⟨0, N, Nat.zero_le _, rfl, rfl, Nat.le_refl _, hNb⟩
                case round =>
                  obtain ⟨j, m, hj, rfl, rfl, hm1, hm2⟩ := hrel
                  by_cases hjl : j < params.length
                  · have hj0 : (0 : Int) ≤ (j : Int) := by omega
                    have hj1 : (j : Int) < (params.length : Int) := by omega
                    by_cases hm : m < 3000
                    · obtain ⟨pb, pq, rfl, pc⟩ := lpa_at R3 j hjl
                      have hpz : (bs params[j].name).size = params[j].name.length := bs_size _
                      have hm' : (m : Int) < 3000 := by omega
                      go_wp2_with fail
                      go_round
                      case rel => exact ⟨j + 1, m + min params[j].name.length 100000, by omega, by go_num, by simp; omega, by omega, by omega⟩
                      case measure => simp [intOf]; omega
                    · have hm' : ¬ (m : Int) < 3000 := by omega
                      have hm3 : decide ((m : Int) < 3000) = false := by simp; omega
                      go_wp2_with fail
                      go_roundw
                      case rel => exact ⟨k + 1, m, by omega, by go_num, rfl, by omega, hm2, BW.out, fun h => by omega⟩
                      case measure => simp [intOf]; omega
                  · go_wp2_with fail
                    go_roundw
                    case rel => exact ⟨k + 1, m, by omega, by go_num, rfl, by omega, hm2, BW.out, fun h => HO.out hN3⟩
                    case measure => simp [intOf]; omega
              · have hN4 : ¬ (N : Int) < 3000 := by omega
                have hN5 : decide ((N : Int) < 3000) = false := by simp; omega
                go_loop [3, 7] (fun x i => x = .int .i64 N ∧ i = .int .i64 0) (fun _ _ => 0)
                case atStart => exact ⟨rfl, rfl⟩
                case round =>
                  obtain ⟨rfl, rfl⟩ := hrel
                  by_cases hpp : 0 < params.length
                  · have hpp' : (0 : Int) < (params.length : Int) := by omega
                    go_wp2_with fail
                    go_roundw
                    case rel => exact ⟨k + 1, N, by omega, by go_num, rfl, by omega, hNb, BW.out, fun h => by omega⟩
                    case measure => simp [intOf]; omega
                  · have hpp' : ¬ (0 : Int) < (params.length : Int) := by omega
                    have hpp2 : decide ((0 : Int) < (params.length : Int)) = false := decide_eq_false hpp'
                    go_wp2_with fail
                    go_roundw
                    case rel => exact ⟨k + 1, N, by omega, by go_num, rfl, by omega, hNb, BW.out, fun h => by omega⟩
                    case measure => simp [intOf]; omega
          · have hn' : ¬ (n : Int) < 3000 := by omega
            have hn2 : decide ((n : Int) < 3000) = false := by simp; omega
            go_wp2_with fail
            go_ret
            exact ⟨bl_then hb0 HB.out, false, rfl, fun h => by cases h⟩
        · have hkl : k = funcs.length := by omega
          go_wp2_with fail
          go_ret
          refine ⟨bl_then hb0 HB.out, decide ((n : Int) < 3000), rfl, fun h => ?_⟩
          have h3 := of_decide_eq_true h
          have := HK.out (by omega)
          rw [hkl, List.take_length] at this
          exact ⟨this, by omega, by omega⟩
end Go.Proofs.YtlagadofiahijaaDoor.Sh
