/- CONTRACTS for the walk of TreeOps: what is parsed and read of its texts. -/
import Derived.Test.YtpagbhgnkbbdjaaGreatDoorM43
import Derived.Test.YtpagbhgnkbbdjaaGreatDoorMLOpsM
import Derived.Test.YtpagbhgnkbbdjaaGreatDoorMLAgainW
namespace Go.Proofs.YtpagbhgnkbbdjaaGreatDoor
open Go.ChangeShapes Go.WideShapes Go.ChangeAt Go.RowKit

theorem bs_join (a b : List UInt8) : bs a ++ bs b = bs (a ++ b) := by
  apply ByteArray.ext
  simp [bs, ByteArray.data_append]
def opsT (sg n : List UInt8) : List UInt8 := preT ++ (sg ++ (32 :: (n ++ sufT)))
theorem opsT_cat (sg n : List UInt8) : ((preT ++ sg) ++ [32] ++ n) ++ sufT = opsT sg n := by simp [opsT]
theorem cat_ops {a b c : List UInt8} (d : Array UInt8) (n : Nat) (hd : d.toList = b) (hn : b.length = n) (h : a.length ≤ 1000) (hb : n ≤ 100) (e : a ++ b = c) : (bs a).size + n ≤ 9223372036854775807 ∧ bs a ++ ⟨d⟩ = bs c := by
  subst hn e
  have : (⟨d⟩ : ByteArray) = bs b := by rw [← hd]; rfl
  rw [this]
  exact ⟨by rw [bs_size]; omega, bs_join a b⟩
theorem pre_cat (sg : List UInt8) (h : sg.length ≤ 100) : 28 + (bs sg).size ≤ 9223372036854775807 ∧ (⟨#[40, 117, 110, 105, 116, 32, 97, 41, 32, 40, 102, 110, 32, 102, 32, 40, 41, 32, 112, 117, 98, 32, 40, 114, 101, 116, 32, 40]⟩ : ByteArray) ++ bs sg = bs (preT ++ sg) :=
  ⟨by rw [bs_size]; omega, bs_join preT sg⟩
theorem ops_ms (sg n : List UInt8) (p1 p2 : Int) (h : sg.length ≤ 100) (h' : n.length ≤ 10) : msL (opsN (opsX sg n p1 p2)) ≤ 100000 := by
  simp only [opsN, opsX, msL, Nd.ms, List.length_cons, List.length_nil]
  omega
theorem ops_call (sg n : List UInt8) (hs : wordB sg = true) (hn : wordB n = true) (hl : sg.length ≤ 100) (hl' : n.length ≤ 10) (w : World) :
    Calls Tryz.prog 16 #[.string (bs (opsT sg n))] w fun e w1 => Below w.heap.size w w1 ∧ ∃ a c p1 p2, e = .returned (.tuple #[.slice a 2 c, .int .i64 0, .int .i64 (-1)]) ∧ Row (fun b => w.heap.size ≤ b) w1 a (opsN (opsX sg n p1 p2)) ∧ 2 ≤ c := by
  obtain ⟨p1, p2, hp⟩ := ops_parse sg n hs hn hl hl'
  refine (parse_to (s := bs (opsT sg n)) (by rw [bs_list]; exact hp) w).mono ?_
  rintro e w1 ⟨hb, a, c, rfl, hr, hc⟩
  exact ⟨hb, a, c, p1, p2, rfl, hr, hc⟩
/-- What is read of a sign that is an op's. -/
theorem ops_read {B : Nat} {w w1 : World} {sg n : List UInt8} {p1 p2 : Int} {v : Nat} (a : Option Addr) (c : Nat) (hg : Glob B w) (hb : Below w.heap.size w w1) (hr : Row (fun b => w.heap.size ≤ b) w1 a (opsN (opsX sg n p1 p2))) (hc : 2 ≤ c) (hl : sg.length ≤ 100) (hl' : n.length ≤ 10) (hop : opOf sg ≠ 0) (hn : num n = some v) :
    Calls Tryz.prog 17 #[.slice a 2 c] w1 fun e w2 => Below w1.heap.size w1 w2 ∧ ∃ a1 c1 c2 b o b' o' m c3, e = .returned (.tuple #[.agg #[.string ⟨#[97]⟩, .slice a1 0 c1, .slice (some ⟨b, o, none⟩) 1 c2], .int .i64 0, .int .i64 (-1)]) ∧ 1 ≤ c2 ∧ 2 ≤ c3 ∧
      (w2.cell? ⟨b, o + 4, none⟩ = some (.int .i64 4) ∧ w2.cell? ⟨b, o + 4 + 1, none⟩ = some (.int .u32 0) ∧ w2.cell? ⟨b, o + 4 + 2, none⟩ = some (.int .i64 (opOf sg)) ∧ w2.cell? ⟨b, o + 4 + 3, none⟩ = some (.string m) ∧ w2.cell? ⟨b, o + 4 + 4, none⟩ = some (.slice (some ⟨b', o', none⟩) 2 c3)) ∧
      w2.cell? ⟨b', o', none⟩ = some (.int .i64 1) ∧ w2.cell? ⟨b', o' + 1, none⟩ = some (.int .u32 v) ∧ w2.cell? ⟨b', o' + 5, none⟩ = some (.int .i64 2) := by
  refine (read_then _ a c hg hb hr hc (ops_ms sg n p1 p2 hl hl')).mono ?_
  rintro e w2 ⟨hb2, hok, -⟩
  obtain ⟨x, rfl, hv⟩ := hok _ (ops_good (opsX_good hop hn))
  obtain ⟨a1, c1, a2, c2, rfl, h1, h2, r1, r2⟩ := hv
  obtain ⟨b, o, cs, rfl, hS, hcs, hC, -⟩ := r2
  obtain ⟨q1, d1, q2, d2, q3, d3, rfl, -, -, hd3, -, -, hE⟩ := hC
  rw [exR] at hE
  obtain ⟨b', o', cs1, rfl, -, hc1, hC1, hE2⟩ := hE
  rw [exR] at hE2
  obtain ⟨b2, o2, cs2, e2, -, hc2, hC2, -⟩ := hE2
  rw [exC] at hC1 hC2
  obtain ⟨x1, y1, rfl, -, -⟩ := hC1
  obtain ⟨x2, y2, rfl, -, -⟩ := hC2
  injection e2 with e2
  injection e2 with e3 e4
  subst e3 e4
  exact ⟨hb2, a1, c1, c2, b, o, b', o', bs [], d3, rfl, h2, hd3, ⟨hcs 4 _ rfl, hcs 5 _ rfl, hcs 6 _ rfl, hcs 7 _ rfl, hcs 8 _ rfl⟩, hc1 0 _ rfl, hc1 1 _ rfl, hc2 0 _ rfl⟩
/-- What is read of a sign that is none. -/
theorem ops_refuse {B : Nat} {w w1 : World} {sg n : List UInt8} {p1 p2 : Int} (a : Option Addr) (c : Nat) (hg : Glob B w) (hb : Below w.heap.size w w1) (hr : Row (fun b => w.heap.size ≤ b) w1 a (opsN (opsX sg n p1 p2))) (hc : 2 ≤ c) (hl : sg.length ≤ 100) (hl' : n.length ≤ 10) (hop : opOf sg = 0) (e1 : ¬ sg = [97, 116]) (e2 : ¬ sg = [115, 101, 108]) (e3 : ¬ sg = [99, 97, 108, 108]) :
    Calls Tryz.prog 17 #[.slice a 2 c] w1 fun e w2 => Below w1.heap.size w1 w2 ∧ e = .returned (.tuple #[.agg #[.string ⟨#[]⟩, .slice none 0 0, .slice none 0 0], .int .i64 6, .int .i64 28]) := by
  refine (read_then _ a c hg hb hr hc (ops_ms sg n p1 p2 hl hl')).mono ?_
  rintro e w2 ⟨hb2, -, hbad⟩
  exact ⟨hb2, hbad _ _ (ops_bad (opsX_bad hop e1 e2 e3))⟩
end Go.Proofs.YtpagbhgnkbbdjaaGreatDoor
