/- Texts of this proof, put together: LAwake. -/
import Derived.Test.YtbpdhegfdmppgaaGreatDoorM38
import Derived.Test.YtbpdhegfdmppgaaGreatDoorM40
import Derived.Test.YtbpdhegfdmppgaaGreatDoorM9

/- THE CONTRACT of the statements' own awake: true. -/
namespace Go.Proofs.YtbpdhegfdmppgaaGreatDoor
open Go.ChangeShapes Go.WideShapes Go.ChangeAt Go.RowKit

abbrev awT : ByteArray := ⟨#[40, 117, 110, 105, 116, 32, 97, 41, 32, 40, 102, 110, 32, 102, 32, 40, 40, 120, 32, 112, 117, 98, 41, 41, 32, 112, 117, 98, 32, 40, 108, 101, 116, 32, 121, 32, 40, 43, 32, 120, 32, 49, 41, 41, 32, 40, 114, 101, 116, 32, 121, 41, 41]⟩
def awL : List Nd := [.mk true [] [.mk false [117, 110, 105, 116] [] 1, .mk false [97] [] 6] 0, .mk true [] [.mk false [102, 110] [] 10, .mk false [102] [] 13, .mk true [] [.mk true [] [.mk false [120] [] 17, .mk false [112, 117, 98] [] 19] 16] 15, .mk false [112, 117, 98] [] 25, .mk true [] [.mk false [108, 101, 116] [] 30, .mk false [121] [] 34, .mk true [] [.mk false [43] [] 37, .mk false [120] [] 39, .mk false [49] [] 41] 36] 29, .mk true [] [.mk false [114, 101, 116] [] 46, .mk false [121] [] 50] 45] 9]
def awF : Fu := ⟨[102], [⟨[120], false, 0⟩], false, [.mk 1 [121] false 0 0 0 .none (.mk 4 0 1 [] [.mk 2 0 0 [120] [], .mk 1 1 0 [] []]) [] []], .mk 2 0 0 [121] []⟩
def awU : Un := ⟨[97], [], [awF]⟩
theorem aw_parse : parse awT.data.toList = .ok awL := by kernel_rfl
theorem aw_unit : rdUnit awL = .ok awU := by kernel_rfl
theorem aw_ms : msL awL ≤ 100000 := by decide
theorem aw_fits : ∀ f ∈ awU.sh.funcs, Sh.FuFits f := by
  intro f hf
  obtain rfl : f = awF.sh := List.mem_singleton.1 (show f ∈ [awF.sh] from hf)
  exact ⟨of_decide_eq_true (by kernel_rfl), of_decide_eq_true (by kernel_rfl), by simp [awF, Fu.sh, smsSh, Sm.sh, Ex.sh, Ex.none, exsSh, Sh.smOks, Sh.smOk, Sh.exOk, Sh.exOks], by simp [awF, Fu.sh, smsSh, Sm.sh, Ex.sh, exsSh, Sh.exOk, Sh.exOks]⟩
theorem aw_sh : ∃ m, Sh.shU awU.sh = some m ∧ m.length = 2 := by
  have h : (Sh.shU awU.sh).map List.length = some 2 := by kernel_rfl
  cases hs : Sh.shU awU.sh with
  | none => rw [hs] at h; cases h
  | some m => rw [hs] at h; exact ⟨m, rfl, by simpa using h⟩
/-- What is read of nodes that lie somewhere, and what it shows as. -/
theorem read_then {B : Nat} {w w1 : World} (l : List Nd) (a : Option Addr) (c : Nat) (hg : Glob B w) (hb : Below w.heap.size w w1) (hr : Row (fun b => w.heap.size ≤ b) w1 a l) (hc : l.length ≤ c) (hm : msL l ≤ 100000) :
    Calls Tryz.prog 11 #[.slice a l.length c] w1 fun e w' => Below w1.heap.size w1 w' ∧ (∀ u, rdUnit l = .ok u → ∃ v, e = .returned (.tuple #[v, .int .i64 0, .int .i64 (-1)]) ∧ UnV w' (fun b => w1.heap.size ≤ b) v u) ∧ ∀ x y, rdUnit l = .bad x y → e = .returned (.tuple #[.agg #[.string ⟨#[]⟩, .slice none 0 0, .slice none 0 0], .int .i64 x, .int .i64 y]) :=
  unit_any (B := w1.heap.size) l a c ((hg.below hb).raise (Nat.le_trans hg.le hb.size) (Nat.le_refl _)) (wokL_ms l (by omega)) (hr.mono fun b _ hlt => ⟨hlt, rfl⟩) hc (Nat.le_trans (szL_ms l) (by omega))
theorem aw_call (w : World) : Calls Tryz.prog 10 #[.string awT] w fun e w1 => Below w.heap.size w w1 ∧ ∃ a c, e = .returned (.tuple #[.slice a 2 c, .int .i64 0, .int .i64 (-1)]) ∧ Row (fun b => w.heap.size ≤ b) w1 a awL ∧ 2 ≤ c := by
  refine (parse_any awT w).mono ?_
  rintro e w1 ⟨hb, v, rfl, hrd⟩
  rw [aw_parse] at hrd ⊢
  obtain ⟨a, c, rfl, hr, hc⟩ := hrd
  exact ⟨hb, a, c, rfl, hr, hc⟩
theorem aw_read {B : Nat} {w w1 : World} (a : Option Addr) (c : Nat) (hg : Glob B w) (hs : Sh.Glob B w) (hb : Below w.heap.size w w1) (hr : Row (fun b => w.heap.size ≤ b) w1 a awL) (hc : 2 ≤ c) :
    Calls Tryz.prog 11 #[.slice a 2 c] w1 fun e w2 => Below w1.heap.size w1 w2 ∧ ∃ a1 c1 c2 b o a3 c3, e = .returned (.tuple #[.agg #[.string ⟨#[97]⟩, .slice a1 0 c1, .slice (some ⟨b, o, none⟩) 1 c2], .int .i64 0, .int .i64 (-1)]) ∧ w2.cell? ⟨b, o + 3, none⟩ = some (.slice a3 1 c3) ∧ 1 ≤ c2 ∧ Sh.UnOk B (fun b => w1.heap.size ≤ b) w2 a1 [] (some ⟨b, o, none⟩) awU.sh.funcs := by
  refine (read_then awL a c hg hb hr hc aw_ms).mono ?_
  rintro e w2 ⟨hb2, hok, -⟩
  obtain ⟨v, rfl, hv⟩ := hok _ aw_unit
  obtain ⟨a1, c1, a2, c2, rfl, h1, h2, r1, r2⟩ := hv
  obtain ⟨b, o, cs, rfl, hS, hcs, hC, hr2⟩ := r2
  obtain ⟨p1, d1, p2, d2, p3, d3, rfl, hC⟩ := hC
  refine ⟨hb2, a1, c1, c2, b, o, p2, d2, rfl, hcs 3 _ rfl, h2, ⟨?_, strR_sh r1, fuR_sh ⟨b, o, _, rfl, hS, hcs, ⟨p1, d1, p2, d2, p3, d3, rfl, hC⟩, hr2⟩, aw_fits⟩⟩
  exact (hs.below hb).below hb2
theorem aw_show {B : Nat} {S : Nat → Prop} {w : World} (a1 : Option Addr) (c1 : Nat) (a2 : Option Addr) (c2 : Nat) (h : Sh.UnOk B S w a1 [] a2 awU.sh.funcs) :
    Calls Tryz.prog 15 #[.agg #[.string ⟨#[97]⟩, .slice a1 0 c1, .slice a2 1 c2]] w fun e w' => Below w.heap.size w w' ∧ ∃ x k, e = .returned (.tuple #[.slice x 2 k, .int .i64 0]) := by
  obtain ⟨m, hm, hl⟩ := aw_sh
  refine (Sh.nodes_some [97] [] awU.sh.funcs a1 c1 a2 c2 w h m hm).mono ?_
  rintro e w' ⟨⟨v, rfl, a, c, rfl, -, -⟩, hb⟩
  exact ⟨hb, a, c, by rw [hl]⟩
set_option maxRecDepth 100000 in
set_option maxHeartbeats 4000000 in
theorem awake_any {B : Nat} (w : World) (hg : Glob B w) (hs : Sh.Glob B w) : Calls Tryz.prog 9 #[] w fun e w' => e = .returned (.bool true) ∧ Below w.heap.size w w' := by
  have HP := Lib.hid (aw_call w)
  have HU : Hid (∀ w1 a c, Below w.heap.size w w1 → Row (fun b => w.heap.size ≤ b) w1 a awL → 2 ≤ c → _) := fun w1 a c hb hr hc => aw_read a c hg hs hb hr hc
  clear hg hs
  go_enter Tryz.func9, Tryz.ntmps9
  go_wp2_with (first | (go_at_call 10; refine HP.out.mono ?_; rintro e w1 ⟨hb1, a, c, rfl, hr1, hc1⟩; refine Hid.out ?_))
  refine Lib.hid ?_
  have hU := HU.out w1 a c hb1 hr1 hc1
  clear HU HP hr1
  go_wp2_with (first | (go_at_call 11; refine hU.mono ?_; rintro e w2 ⟨hb2, a1, c1, c2, b, o, a3, c3, rfl, hq3, hc2, hO⟩; refine Hid.out ?_))
  refine Lib.hid ?_
  have HO := Lib.hid hO
  clear hO hU
  go_wp2_with (first | (go_at_call 15; refine (aw_show a1 c1 _ c2 (HO.out.on (one_below w2 _))).mono ?_; rintro e w3 ⟨hb3, x, k, rfl⟩; refine Hid.out ?_))
  refine Lib.hid ?_
  have hu3 := below_keep (heap_alloc_new w2 _) hb3
  have u0 : w3.cell? ⟨w2.heap.size, 0, none⟩ = some (.string ⟨#[97]⟩) := by simp [World.cell?, hu3]
  have u2 : w3.cell? ⟨w2.heap.size, 2, none⟩ = some (.slice (some ⟨b, o, none⟩) 1 c2) := by simp [World.cell?, hu3]
  have q3 : w3.cell? ⟨b, o + 3, none⟩ = some (.slice a3 1 c3) := by
    have hlt := World.block_lt_of_cell? w2 _ hq3
    rw [World.cell?_of_block (w := w2) ((hb3.block b (by simp at hlt ⊢; omega)).trans (heap_alloc_old w2 _ hlt))]
    exact hq3
  have B3 : Below w.heap.size w w3 := Below.then (Below.then hb1 hb2) (Below.then (one_below w2 _) hb3)
  clear hb1 hb2 hb3 HO hq3 hu3
  go_wp2_with fail
  go_ret
  exact ⟨rfl, B3⟩
end Go.Proofs.YtbpdhegfdmppgaaGreatDoor
