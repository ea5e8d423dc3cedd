/- Texts of this proof, put together: LBackW, LBackX. -/
import Derived.Test.YtbpdhegfdmppgaaGreatDoorM41
import Derived.Test.YtbpdhegfdmppgaaGreatDoorM44
import Derived.Test.YtbpdhegfdmppgaaGreatDoorM45
import Derived.Test.YtbpdhegfdmppgaaGreatDoorM43
import Derived.Test.YtbpdhegfdmppgaaGreatDoorM50
import Derived.Test.YtbpdhegfdmppgaaGreatDoorM51

/- CONTRACTS for the walk of TreeBack: what is read of nodes like those that a unit shows; that it is the same. -/
namespace Go.Proofs.YtbpdhegfdmppgaaGreatDoor
open Go.ChangeShapes Go.WideShapes Go.ChangeAt Go.RowKit

theorem parse_here {s : ByteArray} {l : List Nd} (h : parse s.data.toList = .ok l) (w : World) : Calls Tryz.prog 10 #[.string s] w fun e w1 => Below w.heap.size w w1 ∧ ∃ a c, e = .returned (.tuple #[.slice a l.length c, .int .i64 0, .int .i64 (-1)]) ∧ Row (fun b => w.heap.size ≤ b) w1 a l ∧ l.length ≤ c := by
  refine (parse_any s w).mono ?_
  rintro e w1 ⟨hb, v, rfl, hrd⟩
  rw [h] at hrd ⊢
  obtain ⟨a, c, rfl, hr, hc⟩ := hrd
  exact ⟨hb, a, c, rfl, hr, hc⟩
theorem parse_fails {s : ByteArray} {e : Int} {q : Nat} (h : parse s.data.toList = .err e q) (w : World) : Calls Tryz.prog 10 #[.string s] w fun r w1 => Below w.heap.size w w1 ∧ ∃ a c, r = .returned (.tuple #[.slice a 0 c, .int .i64 e, .int .i64 q]) := by
  refine (parse_any s w).mono ?_
  rintro r w1 ⟨hb, v, rfl, hrd⟩
  rw [h] at hrd ⊢
  obtain ⟨a, c, rfl, -, -⟩ := hrd
  exact ⟨hb, a, c, rfl⟩
/-- Nodes that are read as a unit, wherever they lie. -/
theorem read_u {B : Nat} {S : Nat → Prop} {w : World} {name : List UInt8} {imports : List (List UInt8)} {funcs : List Sh.Fu} (L : List Nd) (a : Option Addr) (c : Nat) (hg : Glob B w) (hr : Row S w a L) (hc : L.length ≤ c) (hm : msL L ≤ 1000000000) (hu : ∃ u', rdUnit L = .ok u' ∧ u'.sh = ⟨name, imports, funcs⟩) :
    Calls Tryz.prog 11 #[.slice a L.length c] w fun e w' => Below w.heap.size w w' ∧ ∃ b1 d1 b2 d2, e = .returned (.tuple #[.agg #[.string (bs name), .slice b1 imports.length d1, .slice b2 funcs.length d2], .int .i64 0, .int .i64 (-1)]) ∧ Sh.kStr.row w' (fun b => w.heap.size ≤ b) b1 imports ∧ Sh.kFu.row w' (fun b => w.heap.size ≤ b) b2 funcs := by
  obtain ⟨u', h1, h2⟩ := hu
  refine (unit_any (B := w.heap.size) L a c (hg.raise hg.le (Nat.le_refl _)) (wokL_ms L hm) (hr.mono fun b _ hlt => ⟨hlt, rfl⟩) hc (Nat.le_trans (szL_ms L) hm)).mono ?_
  rintro e w' ⟨hb, hok, -⟩
  obtain ⟨v, rfl, hv⟩ := hok _ h1
  obtain ⟨b1, d1, b2, d2, rfl, g1, g2, r1, r2⟩ := hv
  have e1 : u'.name = name := congrArg Sh.Un.name h2
  have e2 : u'.imports = imports := congrArg Sh.Un.imports h2
  have e3 : u'.funcs.map Fu.sh = funcs := congrArg Sh.Un.funcs h2
  have e4 : u'.funcs.length = funcs.length := by rw [← e3, List.length_map]
  refine ⟨hb, b1, d1, b2, d2, by rw [e1, e2, e4], by rw [← e2]; exact strR_sh r1, by rw [← e3]; exact fuR_sh r2⟩
theorem same_u {S T : Nat → Prop} (name : List UInt8) (imports : List (List UInt8)) (funcs : List Sh.Fu) (x1 x2 y1 y2 : Option Addr) (xc1 xc2 yc1 yc2 : Nat) (w : World) (hi : imports.length ≤ 1000000000) (hf : funcs.length ≤ 1000000000)
    (hok : ∀ f ∈ funcs, f.params.length ≤ 1000000000 ∧ Sh.smWs f.body ≤ 1000000000 ∧ Sh.exW f.result ≤ 1000000000) (r1 : Sh.kStr.row w S x1 imports) (r2 : Sh.kFu.row w S x2 funcs) (r1' : Sh.kStr.row w T y1 imports) (r2' : Sh.kFu.row w T y2 funcs) :
    Calls Tryz.prog 13 #[.agg #[.string (bs name), .slice x1 imports.length xc1, .slice x2 funcs.length xc2], .agg #[.string (bs name), .slice y1 imports.length yc1, .slice y2 funcs.length yc2]] w fun e w' => e = .returned (.bool true) ∧ Below w.heap.size w w' :=
  Sh.same_any name imports funcs x1 x2 y1 y2 xc1 xc2 yc1 yc2 w hi hf hok r1 r2 r1' r2'
/-- Of a unit that shows: its counts. -/
theorem shU_len {u : Sh.Un} {m : List Sh.Nd} (h : Sh.shU u = some m) : u.imports.length ≤ 7 ∧ u.funcs.length ≤ 16 ∧ ∀ f ∈ u.funcs, f.params.length ≤ 6 := by
  rw [Sh.shU] at h
  split at h
  · rename_i hl
    refine ⟨hl.1, hl.2, fun f hf => ?_⟩
    replace h := bind_some h
    obtain ⟨a, h1, h⟩ := h
    replace h := bind_some h
    obtain ⟨im, h2, h⟩ := h
    obtain ⟨fs, h3, -⟩ := map_some h
    by_cases hp : f.params.length ≤ 6
    · exact hp
    · have : Sh.shF f = none := by rw [Sh.shF, if_neg hp]
      rw [Sh.eachO_none Sh.shF u.funcs f hf this] at h3
      cases h3
  · cases h
mutual
theorem alikeN_refl : ∀ x : Nd, Nd.alike x x = true
  | .mk _ _ ks _ => by simp [Nd.alike, alikeLs_refl ks]
theorem alikeLs_refl : ∀ l : List Nd, alikeL l l = true
  | [] => rfl
  | x :: l => by rw [alikeL, alikeN_refl x, alikeLs_refl l]; rfl
end
end Go.Proofs.YtbpdhegfdmppgaaGreatDoor

/- THE WALK of TreeBack. -/
namespace Go.Proofs.YtbpdhegfdmppgaaGreatDoor
open Go.ChangeShapes Go.WideShapes Go.ChangeAt Go.RowKit

theorem light_u {S : Nat → Prop} (w : World) (name : List UInt8) (imports : List (List UInt8)) (funcs : List Sh.Fu) (a1 : Option Addr) (c1 : Nat) (a2 : Option Addr) (c2 : Nat) (r1 : Sh.kStr.row w S a1 imports) (r2 : Sh.kFu.row w S a2 funcs) :
    Calls Tryz.prog 14 #[.agg #[.string (bs name), .slice a1 imports.length c1, .slice a2 funcs.length c2]] w fun e w' => Below w.heap.size w w' ∧ Sh.LightGives funcs e := Sh.light_any w name imports funcs a1 c1 a2 c2 r1 r2
theorem none_u {B : Nat} {S : Nat → Prop} (name : List UInt8) (imports : List (List UInt8)) (funcs : List Sh.Fu) (a1 : Option Addr) (c1 : Nat) (a2 : Option Addr) (c2 : Nat) (w : World) (hO : Sh.UnOk B S w a1 imports a2 funcs) (hs : Sh.shU ⟨name, imports, funcs⟩ = none) :
    Calls Tryz.prog 15 #[.agg #[.string (bs name), .slice a1 imports.length c1, .slice a2 funcs.length c2]] w fun e w' => e = .returned (.tuple #[.slice none 0 0, .int .i64 6]) ∧ Below w.heap.size w w' := Sh.nodes_none name imports funcs a1 c1 a2 c2 w hO hs
theorem some_u {B : Nat} {S : Nat → Prop} (name : List UInt8) (imports : List (List UInt8)) (funcs : List Sh.Fu) (a1 : Option Addr) (c1 : Nat) (a2 : Option Addr) (c2 : Nat) (w : World) (hO : Sh.UnOk B S w a1 imports a2 funcs) (m : List Sh.Nd) (hs : Sh.shU ⟨name, imports, funcs⟩ = some m) :
    Calls Tryz.prog 15 #[.agg #[.string (bs name), .slice a1 imports.length c1, .slice a2 funcs.length c2]] w fun e w' => Below w.heap.size w w' ∧ ∃ a c, e = .returned (.tuple #[.slice a (ndBs m).length c, .int .i64 0]) ∧ Row (fun b => w.heap.size ≤ b) w' a (ndBs m) ∧ (ndBs m).length ≤ c := by
  refine (Sh.nodes_some name imports funcs a1 c1 a2 c2 w hO m hs).mono ?_
  rintro e w' ⟨⟨v, rfl, hrd⟩, hb⟩
  obtain ⟨a, c, rfl, hr, hc⟩ := rd_back hrd
  exact ⟨hb, a, c, rfl, hr, hc⟩
theorem str_on {w w' : World} {S : Nat → Prop} {a : Option Addr} {l : List (List UInt8)} (h : Sh.kStr.row w S a l) (hb : Below w.heap.size w w') : Sh.kStr.row w' S a l := Sh.kStr.row_mono (by decide) h fun b hS hlt => ⟨hS, hb.block b hlt⟩
theorem fu_on {w w' : World} {S : Nat → Prop} {a : Option Addr} {l : List Sh.Fu} (h : Sh.kFu.row w S a l) (hb : Below w.heap.size w w') : Sh.kFu.row w' S a l := Sh.kFu.row_mono (by decide) h fun b hS hlt => ⟨hS, hb.block b hlt⟩
set_option maxRecDepth 100000 in
set_option maxHeartbeats 16000000 in
theorem back_walk {B : Nat} (name : List UInt8) (imports : List (List UInt8)) (funcs : List Sh.Fu) (a1 : Option Addr) (c1 : Nat) (a2 : Option Addr) (c2 : Nat) (w : World) (hg : Glob B w) (hs : Sh.Glob B w) (r1 : Sh.kStr.row w (fun _ => True) a1 imports) (r2 : Sh.kFu.row w (fun _ => True) a2 funcs) (hnum : ∀ f ∈ funcs, Sh.FuNum f) :
    Calls Tryz.prog 5 #[.agg #[.string (bs name), .slice a1 imports.length c1, .slice a2 funcs.length c2]] w fun e w' => e = .returned (.bool true) ∧ Below w.heap.size w w' := by
  have hb0 : Below w.heap.size w (w.alloc (.cells #[.string (bs name), .slice a1 imports.length c1, .slice a2 funcs.length c2] 30)) := one_below w _
  have hu := heap_alloc_new w (.cells #[.string (bs name), .slice a1 imports.length c1, .slice a2 funcs.length c2] 30)
  have HA := Lib.hid (awake_any (w.alloc (.cells #[.string (bs name), .slice a1 imports.length c1, .slice a2 funcs.length c2] 30)) (hg.below hb0) (hs.below hb0))
  have HR1 := Lib.hid r1
  have HR2 := Lib.hid r2
  clear r1 r2
  go_enter Tryz.func5, Tryz.ntmps5
  go_wp2_with (first | (go_at_call 9; refine HA.out.mono ?_; rintro e w1 ⟨rfl, hb1⟩; refine Hid.out ?_))
  refine Lib.hid ?_
  have k1 := below_keep hu hb1
  have B1 : Below w.heap.size w w1 := Below.then hb0 hb1
  have c1' : ∀ i, w1.cell? ⟨w.heap.size, i, none⟩ = (#[.string (bs name), .slice a1 imports.length c1, .slice a2 funcs.length c2] : Array Value)[i]? := fun i => by simp [World.cell?, k1]
  have l1 := lt_of_some k1
  have hL := light_u w1 name imports funcs a1 c1 a2 c2 (str_on HR1.out B1) (fu_on HR2.out B1)
  clear hu hb0 hb1 HA
  go_wp2_with (first | (go_at_call 14; refine hL.mono ?_; rintro e w2 ⟨hb2, b, rfl, hlight⟩; refine Hid.out ?_))
  refine Lib.hid ?_
  have k2 := below_keep k1 hb2
  have B2 : Below w.heap.size w w2 := Below.then B1 hb2
  have c2' : ∀ i, w2.cell? ⟨w.heap.size, i, none⟩ = (#[.string (bs name), .slice a1 imports.length c1, .slice a2 funcs.length c2] : Array Value)[i]? := fun i => by simp [World.cell?, k2]
  have l2 := lt_of_some k2
  clear c1' hL k1 hb2
  cases b with
  | false =>
    go_wp2_with fail
    go_ret
    exact ⟨rfl, B2⟩
  | true =>
    have hlt := hlight rfl
    have hO : Sh.UnOk B (fun _ => True) w2 a1 imports a2 funcs := ⟨hs.below B2, str_on HR1.out B2, fu_on HR2.out B2, fun f hf => ⟨by have := (hlt f hf).1; omega, by have := (hlt f hf).2; omega, (hnum f hf).1, (hnum f hf).2⟩⟩
    cases hsh : Sh.shU ⟨name, imports, funcs⟩ with
    | none =>
      have hN := none_u name imports funcs a1 c1 a2 c2 w2 hO hsh
      clear hO hsh hlt hlight hg hs hnum
      go_wp2_with (first | (go_at_call 15; refine hN.mono ?_; rintro e w3 ⟨rfl, hb3⟩))
      go_ret
      exact ⟨rfl, Below.then B2 hb3⟩
    | some m =>
      have hN := some_u name imports funcs a1 c1 a2 c2 w2 hO m hsh
      have hnum' : ∀ f ∈ funcs, Sh.smOks f.body ∧ Sh.exOk f.result := fun f hf => hnum f hf
      obtain ⟨n1, n2, n3⟩ := shU_len hsh
      have hms : msL (ndBs m) ≤ 10000000 := shU_ms hsh hnum' hlt
      have HU := Lib.hid (fun (L : List Nd) (h : alikeL (ndBs m) L = true) => bkU hsh hnum' h)
      have hfs : ∀ f ∈ funcs, f.params.length ≤ 1000000000 ∧ Sh.smWs f.body ≤ 1000000000 ∧ Sh.exW f.result ≤ 1000000000 := fun f hf => ⟨by have := n3 f hf; omega, by have := (hlt f hf).1; omega, by have := (hlt f hf).2; omega⟩
      have HF := Lib.hid hfs
      have m1 : imports.length ≤ 7 := n1
      have m2 : funcs.length ≤ 16 := n2
      clear hO hsh hlt hlight hnum hnum' n1 n2 n3 hfs hs
      generalize ndBs m = L at hN hms HU
      go_wp2_with (first | (go_at_call 15; refine hN.mono ?_; rintro e w3 ⟨hb3, a, c, rfl, hr3, hc3⟩; refine Hid.out ?_))
      refine Lib.hid ?_
      have k3 := below_keep k2 hb3
      have B3 : Below w.heap.size w w3 := Below.then B2 hb3
      have c3 : ∀ i, w3.cell? ⟨w.heap.size, i, none⟩ = (#[.string (bs name), .slice a1 imports.length c1, .slice a2 funcs.length c2] : Array Value)[i]? := fun i => by simp [World.cell?, k3]
      have l3 := lt_of_some k3
      have hU := read_u L a c (hg.below B3) hr3 hc3 (by omega) (HU.out L (alikeLs_refl L))
      have HR3 := Lib.hid hr3
      clear c2' hN k2 hr3
      go_wp2_with (first | (go_at_call 11; refine hU.mono ?_; rintro e w4 ⟨hb4, b1, d1, b2, d2, rfl, s1, s2⟩; refine Hid.out ?_))
      refine Lib.hid ?_
      have k4 := below_keep k3 hb4
      have B4 : Below w.heap.size w w4 := Below.then B3 hb4
      have c4' : ∀ i, w4.cell? ⟨w.heap.size, i, none⟩ = (#[.string (bs name), .slice a1 imports.length c1, .slice a2 funcs.length c2] : Array Value)[i]? := fun i => by simp [World.cell?, k4]
      have l4 := lt_of_some k4
      have b5 : Below w4.heap.size w4 (w4.alloc (.cells #[.string (bs name), .slice b1 imports.length d1, .slice b2 funcs.length d2] 30)) := one_below w4 _
      have hS := same_u name imports funcs a1 a2 b1 b2 c1 c2 d1 d2 (w4.alloc (.cells #[.string (bs name), .slice b1 imports.length d1, .slice b2 funcs.length d2] 30)) (by omega) (by omega) HF.out (str_on HR1.out (Below.then B4 b5)) (fu_on HR2.out (Below.then B4 b5)) (str_on s1 b5) (fu_on s2 b5)
      clear s1 s2 hU c3 k3
      go_wp2_with (first | (go_at_call 13; refine hS.mono ?_; rintro e w6 ⟨rfl, hb6⟩; refine Hid.out ?_))
      refine Lib.hid ?_
      have b46 : Below w4.heap.size w4 w6 := Below.then b5 hb6
      have k6 := below_keep k4 b46
      have B6 : Below w.heap.size w w6 := Below.then B4 b46
      have c6' : ∀ i, w6.cell? ⟨w.heap.size, i, none⟩ = (#[.string (bs name), .slice a1 imports.length c1, .slice a2 funcs.length c2] : Array Value)[i]? := fun i => by simp [World.cell?, k6]
      have l6 := lt_of_some k6
      have hr6 : Row (fun b => w2.heap.size ≤ b) w6 a L := HR3.out.keep (Below.then hb4 b46)
      have hP := print_any L _ a c w6 hr6 (by have := wtL_ms L; omega)
      clear hS c4' k4 b5 hb6 b46 hr6
      cases hpg : pGo 10 0 true L with
      | none =>
        rw [hpg] at hP
        obtain ⟨O, hO⟩ : ∃ O, parse (bs []).data.toList = .ok O := ⟨[], rfl⟩
        have hQ := fun w => parse_here hO w
        clear hpg hO
        go_wp2_with (first | (go_at_call 20; refine hP.mono ?_; rintro e w7 ⟨rfl, hb7⟩; refine Hid.out ?_))
        refine Lib.hid ?_
        have hQ7 := hQ w7
        go_wp2_with (first | (go_at_call 10; refine hQ7.mono ?_; rintro e w8 ⟨hb8, a', c', rfl, hr8, hc8⟩))
        go_ret
        exact ⟨rfl, Below.then (Below.then B6 hb7) hb8⟩
      | some u =>
        rw [hpg] at hP
        by_cases hul : u.length ≤ 16384
        · obtain ⟨L', hpa, hal⟩ := parse_print hpg hul
          have hQ := fun w => parse_here (s := bs u) (by rw [bs_list]; exact hpa) w
          have hms' : msL L' ≤ 1000000000 := by have h9 := outL_ms u; rw [hpa] at h9; have h10 : msL L' ≤ 32768 := h9; omega
          have hU2 := fun (w : World) (a : Option Addr) (c : Nat) (S : Nat → Prop) (hg : Glob B w) (hr : Row S w a L') (hc : L'.length ≤ c) => read_u L' a c hg hr hc hms' (HU.out L' hal)
          have HU2 := Lib.hid hU2
          clear hpg hpa hal hU2 HU
          go_wp2_with (first | (go_at_call 20; refine hP.mono ?_; rintro e w7 ⟨rfl, hb7⟩; refine Hid.out ?_))
          refine Lib.hid ?_
          have k7 := below_keep k6 hb7
          have B7 : Below w.heap.size w w7 := Below.then B6 hb7
          have hQ7 := hQ w7
          clear hP c6' k6
          go_wp2_with (first | (go_at_call 10; refine hQ7.mono ?_; rintro e w8 ⟨hb8, a', c', rfl, hr8, hc8⟩; refine Hid.out ?_))
          refine Lib.hid ?_
          have k8 := below_keep k7 hb8
          have B8 : Below w.heap.size w w8 := Below.then B7 hb8
          have hU8 := HU2.out w8 a' c' _ (hg.below B8) hr8 hc8
          clear HU2 hr8 hQ hQ7
          go_wp2_with (first | (go_at_call 11; refine hU8.mono ?_; rintro e w9 ⟨hb9, b3, d3, b4, d4, rfl, s3, s4⟩; refine Hid.out ?_))
          refine Lib.hid ?_
          have k9 := below_keep k8 hb9
          have B9 : Below w.heap.size w w9 := Below.then B8 hb9
          have c9' : ∀ i, w9.cell? ⟨w.heap.size, i, none⟩ = (#[.string (bs name), .slice a1 imports.length c1, .slice a2 funcs.length c2] : Array Value)[i]? := fun i => by simp [World.cell?, k9]
          have l9 := lt_of_some k9
          have b10 : Below w9.heap.size w9 (w9.alloc (.cells #[.string (bs name), .slice b3 imports.length d3, .slice b4 funcs.length d4] 30)) := one_below w9 _
          have hS9 := same_u name imports funcs a1 a2 b3 b4 c1 c2 d3 d4 (w9.alloc (.cells #[.string (bs name), .slice b3 imports.length d3, .slice b4 funcs.length d4] 30)) (by omega) (by omega) HF.out (str_on HR1.out (Below.then B9 b10)) (fu_on HR2.out (Below.then B9 b10)) (str_on s3 b10) (fu_on s4 b10)
          clear s3 s4 hU8 k7 k8
          go_wp2_with (first | (go_at_call 13; refine hS9.mono ?_; rintro e w11 ⟨rfl, hb11⟩))
          go_ret
          exact ⟨rfl, Below.then B9 (Below.then b10 hb11)⟩
        · have hpa : parse (bs u).data.toList = .err 5 0 := by rw [bs_list, parse, if_pos (by omega)]
          have hQ := fun w => parse_fails hpa w
          clear hpg hpa HU
          go_wp2_with (first | (go_at_call 20; refine hP.mono ?_; rintro e w7 ⟨rfl, hb7⟩; refine Hid.out ?_))
          refine Lib.hid ?_
          have hQ7 := hQ w7
          go_wp2_with (first | (go_at_call 10; refine hQ7.mono ?_; rintro e w8 ⟨hb8, a', c', rfl⟩))
          go_ret
          exact ⟨rfl, Below.then (Below.then B6 hb7) hb8⟩
end Go.Proofs.YtbpdhegfdmppgaaGreatDoor
