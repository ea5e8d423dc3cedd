/- CONTRACT of Spans. -/
import Derived.Test.YtkbanngbchhgaaaNRep
import Derived.Test.YtkbanngbchhgaaaGKit
namespace Go.Proofs.Ytkbanngbchhgaaa
open Go.ChangeShapes Go.WideShapes Go.ChangeAt Go.RowKit

/-- What is being found: the row of spans, its box, how many registers have arguments. -/
structure SpAt (w : World) (ob gb pb g : Nat) (o : List (Int × Int)) (wr : World) : Prop where
  hob : wr.heap[ob]? = some (.cells #[.slice (some ⟨pb, 0, none⟩) o.length o.length] 31)
  hgb : wr.heap[gb]? = some (.cells #[.int .i64 (g : Nat)] 3)
  hpb : wr.heap[pb]? = some (spB o)
  n1 : ob ≠ pb
  n2 : gb ≠ pb
  n3 : w.heap.size ≤ pb
  bl : Below w.heap.size w wr
theorem SpAt.on {w wr w' : World} {ob gb pb g : Nat} {o : List (Int × Int)} (h : SpAt w ob gb pb g o wr) (hb : Below wr.heap.size wr w') : SpAt w ob gb pb g o w' :=
  ⟨(hb.block _ (lt_of_some h.hob)).trans h.hob, (hb.block _ (lt_of_some h.hgb)).trans h.hgb, (hb.block _ (lt_of_some h.hpb)).trans h.hpb, h.n1, h.n2, h.n3, bl_then h.bl hb⟩
theorem SpAt.met {w wr w' : World} {ob gb pb g : Nat} {o o' : List (Int × Int)} (h : SpAt w ob gb pb g o wr) (hl : o'.length = o.length) (h1 : w'.heap[pb]? = some (spB o')) (hk : Kept (fun k => k = pb) wr w') : SpAt w ob gb pb g o' w' :=
  ⟨by rw [hl]; exact (hk.block _ (lt_of_some h.hob) h.n1).trans h.hob, (hk.block _ (lt_of_some h.hgb) h.n2).trans h.hgb, h1, h.n1, h.n2, h.n3,
    Kept.to_below ((Below.kept h.bl (fun k => w.heap.size ≤ k)).trans (hk.mono fun k _ e => by have := h.n3; omega)) fun _ h => h⟩
theorem metAll_take (g : Nat) (t : Int) (o : List (Int × Int)) (l : List Int) (k : Nat) (hk : k < l.length) : metAll g t o (l.take (k + 1)) = metL g t (metAll g t o (l.take k)) l[k] := by
  unfold metAll
  rw [List.take_succ_eq_append_getElem hk, List.foldl_append]
  rfl
theorem spansFrom_drop (g k : Nat) (o : List (Int × Int)) (l : List Ir) (hk : k < l.length) : spansFrom g k o (l.drop k) = spansFrom g (k + 1) (metAll g k o (regsL l[k])) (l.drop (k + 1)) := by
  rw [List.drop_eq_getElem_cons hk]
  rfl
theorem irV_of {x : Ir} {a : Option Addr} {c : Nat} : irV x a c = .agg #[.int .i64 x.kind, .int .i64 x.op, .int .i64 x.d, .int .i64 x.a, .int .i64 x.b, .int .i64 x.c, .int .u32 (x.n : Int), .string (bs x.name), .slice a x.args.length c] := rfl

theorem right_bds {x : Co} (hr : (rightR x).1 = 0) : x.ps.length ≤ 6 ∧ 0 < x.l.length ∧ x.l.length ≤ 10000 ∧ (wordsN x.ps : Int) ≤ x.regs ∧ x.regs ≤ 10000 := by
  obtain ⟨h1, h2, h3, h4, h5, h6, h7, h8, h9⟩ := formB_parts (right_form hr)
  exact ⟨h2, h3, h4, h6, h7⟩
theorem right_args {x : Co} (hr : (rightR x).1 = 0) : ∀ i (hi : i < x.l.length), x.l[i].kind = 7 → x.l[i].args.length ≤ 1000 := fun i hi h7 => by
  have h1 := (irOk_of (right_ir hr i hi)).known
  unfold knownB at h1
  rw [if_neg (by omega), if_pos h7] at h1
  simp at h1
  omega
theorem regsL_len {y : Ir} (h : y.kind = 7 → y.args.length ≤ 1000) : (regsL y).length ≤ 1001 := by
  unfold regsL
  split
  · simp
  split
  · simp
  split
  · simp
  split
  · simp
  split
  · rename_i h7; have := h h7; simp only [List.length_cons]; omega
  split <;> simp
theorem coO_of {x : Co} {pa la : Option Addr} {pc lc : Nat} : coO x pa pc la lc = .cells #[.string (bs x.name), .slice pa x.ps.length pc, .int .i64 x.regs, .int .i64 x.cells, .slice la x.l.length lc] 25 := rfl
theorem spans_no {B : Nat} {S : Nat → Prop} (x : Co) (pa : Option Addr) (pc : Nat) (la : Option Addr) (lc : Nat) (w : World) (hin : CoIn w S x pa pc la lc) (hok : CoOk x) (hg : Glob B w) (hr : (rightR x).1 ≠ 0) :
    Calls Try.prog 12 #[coV x pa pc la lc] w fun e w' => e = .returned (.slice none 0 0) ∧ Below w.heap.size w w' := by
  have h0 := bl_alloc (Below.refl w.heap.size w) (coO x pa pc la lc)
  have hri := right_any x pa pc la lc (w.alloc (coO x pa pc la lc)) (hin.mono (T := S) fun b hb hlt => ⟨hb, h0.block b hlt⟩) hok (hg.alloc _)
  have H0 : Hid _ := h0
  clear h0
  unfold coV at hri ⊢
  have hr' : ((rightR x).1 == 0) = false := by simpa using hr
  generalize (rightR x).1 = e1 at hri hr'
  generalize (rightR x).2 = e2 at hri
  go_enter Try.func12, Try.ntmps12
  go_wp2_with (first | (go_at_call 21; refine hri.mono ?_; rintro e w2 ⟨rfl, hb2⟩))
  go_ret
  exact ⟨rfl, bl_then H0.out hb2⟩
set_option maxRecDepth 100000 in
set_option maxHeartbeats 4000000 in
theorem spans_yes {B : Nat} {S : Nat → Prop} (x : Co) (pa : Option Addr) (pc : Nat) (la : Option Addr) (lc : Nat) (w : World) (hin : CoIn w S x pa pc la lc) (hok : CoOk x) (hg : Glob B w) (hr : (rightR x).1 = 0) :
    Calls Try.prog 12 #[coV x pa pc la lc] w fun e w' => (∃ b, e = .returned (.slice (some ⟨b, 0, none⟩) x.regs.toNat x.regs.toNat) ∧ w'.heap[b]? = some (spB (spansM x)) ∧ w.heap.size ≤ b) ∧ Below w.heap.size w w' := by
  have h0 := bl_alloc (Below.refl w.heap.size w) (coO x pa pc la lc)
  have hx0 := heap_alloc_new w (coO x pa pc la lc)
  have hri := right_any x pa pc la lc (w.alloc (coO x pa pc la lc)) (hin.mono (T := S) fun b hb hlt => ⟨hb, h0.block b hlt⟩) hok (hg.alloc _)
  have hRI := regs_in hr
  obtain ⟨hp6, hlp, hl4, hws, hr4⟩ := right_bds hr
  have ha6 := right_args hr
  obtain ⟨n, hn⟩ : ∃ n : Nat, x.regs = n := ⟨x.regs.toNat, by omega⟩
  have HRI : Hid _ := hRI
  have HA6 : Hid _ := ha6
  have HN : Hid _ := hn
  have HX0 : Hid _ := hx0
  have H0 : Hid _ := h0
  have hnt : x.regs.toNat = n := by omega
  have hn1 : n ≤ 1000000 := by omega
  have HM : Hid (spansM x = spansFrom (wordsN x.ps) 0 (List.replicate n (-1, -1)) x.l) := by show _ = _; unfold spansM; rw [hnt]
  rw [hnt]
  rw [hr] at hri
  unfold coV at hri ⊢
  generalize (rightR x).2 = e2 at hri
  clear hRI ha6 h0 hx0 hws hr4 hnt hn hr
  go_enter Try.func12, Try.ntmps12
  go_upto_region 4 with (first | (go_at_call 21; refine hri.mono ?_; rintro e w2 ⟨rfl, hb2⟩))
  have hX2 := (hb2.block _ (lt_of_some HX0.out)).trans HX0.out
  have hB2 := bl_then H0.out hb2
  rw [coO_of, HN.out] at hX2
  have hrep := repeat_any (w2.alloc (.cells #[.int .i64 (-1), .int .i64 (-1)] 26)) w2.heap.size n (-1, -1) hn1 (heap_alloc_new w2 _)
  have hB3 := bl_alloc hB2 (.cells #[.int .i64 (-1), .int .i64 (-1)] 26)
  have hX3 : (w2.alloc (.cells #[.int .i64 (-1), .int .i64 (-1)] 26)).heap[w.heap.size]? = some _ := (heap_alloc_old w2 _ (lt_of_some hX2)).trans hX2
  obtain ⟨k0, k1, k2, k3, k4⟩ := five hX3
  have HX3 : Hid _ := hX3
  have HB3 : Hid _ := hB3
  clear hri hb2 hX2 hX3 hB2 hB3 HX0 H0
  go_upto_region 5 with (first | (go_at_call 22; refine hrep.mono ?_; rintro e w3 ⟨rfl, hp3, hb3⟩))
  have hsz : (w2.alloc (.cells #[.int .i64 (-1), .int .i64 (-1)] 26)).heap.size = w2.heap.size + 1 := by simp
  have hX4 := (hb3.block _ (lt_of_some HX3.out)).trans HX3.out
  have hB4 := bl_then HB3.out hb3
  rw [hsz] at hp3
  have hpl : w.heap.size < w2.heap.size + 1 := by have := lt_of_some HX3.out; rw [hsz] at this; exact this
  clear hrep hb3 HX3 HB3 hsz k0 k1 k2 k3 k4
  generalize w2.heap.size + 1 = pb at hp3 hpl ⊢
  have hol := lt_of_some hp3
  have hop : w3.heap.size ≠ pb := by omega
  have hob4 := heap_alloc_new w3 (.cells #[.slice (some ⟨pb, 0, none⟩) n n] 31)
  have hp4 := (heap_alloc_old w3 (.cells #[.slice (some ⟨pb, 0, none⟩) n n] 31) hol).trans hp3
  have hX5 := (heap_alloc_old w3 (.cells #[.slice (some ⟨pb, 0, none⟩) n n] 31) (lt_of_some hX4)).trans hX4
  have hB5 := bl_alloc hB4 (.cells #[.slice (some ⟨pb, 0, none⟩) n n] 31)
  generalize w3.alloc (.cells #[.slice (some ⟨pb, 0, none⟩) n n] 31) = w4 at hob4 hp4 hX5 hB5 ⊢
  generalize w3.heap.size = ob at hop hob4 ⊢
  have hwo := words_any w4 pa x.ps pc (hin.mono (T := S) fun b hb hlt => ⟨hb, hB5.block b hlt⟩).ps (by omega)
  obtain ⟨k0, k1, k2, k3, k4⟩ := five hX5
  have HX5 : Hid _ := hX5
  have HB5 : Hid _ := hB5
  have HP4 : Hid _ := hp4
  have HO4 : Hid _ := hob4
  have HOP : Hid _ := hop
  have HPL : Hid _ := hpl
  clear hX4 hB4 hp3 hol hob4 hp4 hX5 hB5 hop hpl
  go_upto_region 6 with (first | (go_at_call 23; refine hwo.mono ?_; rintro e w5 ⟨rfl, hb5⟩))
  have hX6 := (hb5.block _ (lt_of_some HX5.out)).trans HX5.out
  have hB6 := bl_then HB5.out hb5
  have hp6 := (hb5.block _ (lt_of_some HP4.out)).trans HP4.out
  have ho6 := (hb5.block _ (lt_of_some HO4.out)).trans HO4.out
  have hgp : w5.heap.size ≠ pb := by have := lt_of_some hp6; omega
  have hg7 := heap_alloc_new w5 (.cells #[.int .i64 (wordsN x.ps : Nat)] 3)
  have hX7 := (heap_alloc_old w5 (.cells #[.int .i64 (wordsN x.ps : Nat)] 3) (lt_of_some hX6)).trans hX6
  have ho7 := (heap_alloc_old w5 (.cells #[.int .i64 (wordsN x.ps : Nat)] 3) (lt_of_some ho6)).trans ho6
  have hp7 := (heap_alloc_old w5 (.cells #[.int .i64 (wordsN x.ps : Nat)] 3) (lt_of_some hp6)).trans hp6
  have hB7 := bl_alloc hB6 (.cells #[.int .i64 (wordsN x.ps : Nat)] 3)
  clear hwo hb5 hX6 hB6 hp6 ho6 HX5 HB5 HP4 HO4 k0 k1 k2 k3 k4
  generalize w5.alloc (.cells #[.int .i64 (wordsN x.ps : Nat)] 3) = w6 at hg7 hX7 ho7 hp7 hB7 ⊢
  generalize w5.heap.size = gb at hgp hg7 ⊢
  obtain ⟨k0, k1, k2, k3, k4⟩ := five hX7
  have hrl : (List.replicate n ((-1 : Int), (-1 : Int))).length = n := List.length_replicate
  have hS7 : SpAt w ob gb pb (wordsN x.ps) (List.replicate n (-1, -1)) w6 := ⟨by rw [hrl]; exact ho7, hg7, hp7, HOP.out, hgp, by have := HPL.out; omega, hB7⟩
  generalize wordsN x.ps = g at HM hS7
  have HS7 : Hid _ := hS7
  have HL : Hid (kIr.row w S la x.l) := hin.l
  clear hX7 hB7 hg7 hgp hp7 ho7 HOP HPL hrl hS7 hin
  have hmf : ∀ (fn : Fn) (first cap : Array Value) (w : World), (Instr.makeFunc fn first cap).run Try.prog w = .ok (.func fn first cap) w := fun _ _ _ _ => rfl
  go_upto_region 8 with fail
  clear k0 k1 k2 k3 k4 hmf
  go_loopw [31] (fun i wr => ∃ (k : Nat) (o : List (Int × Int)), k ≤ x.l.length ∧ i = .int .i64 k ∧ o.length = n ∧ spansM x = spansFrom g k o (x.l.drop k) ∧ SpAt w ob gb pb g o wr) (fun i _ => x.l.length - (intOf i).toNat)
  case atStart => exact ⟨0, _, Nat.zero_le _, rfl, List.length_replicate, HM.out, HS7.out⟩
  case round =>
    obtain ⟨k, o, hk, rfl, hol, hq, hsp⟩ := hrel
    obtain ⟨wO, hwO⟩ : ∃ wO, wO = wr := ⟨wr, rfl⟩
    subst hwO
    have HQ : Hid _ := hq
    have HSP : Hid _ := hsp
    have HOL : Hid _ := hol
    by_cases hlt : k < x.l.length
    · have hrow : kIr.row wO S la x.l := kIr.row_mono (T := S) (by decide) HL.out fun b hb hlt => ⟨hb, hsp.bl.block b hlt⟩
      obtain ⟨b, q, ga, gc, rfl, hS, hb, hia, hgc, hny, hrw⟩ := ir_at hrow k hlt
      obtain ⟨e0, e1, e2, e3, e4, e5, e6, e7, e8⟩ := hia
      have hD := spansFrom_drop g k o x.l hlt
      have hA := HA6.out k hlt
      have hR := HRI.out x.l[k] (List.getElem_mem hlt)
      rw [HN.out] at hR
      generalize x.l[k] = y at e0 e1 e2 e3 e4 e5 e6 e7 e8 hgc hny hrw hD hA hR
      have HD : Hid _ := hD
      have HA : Hid _ := hA
      have HR : Hid _ := hR
      have HRW : Hid _ := hrw
      clear hq hsp hol hrow hS hb hD hA hR hrw hny
      have hk1 : (k : Int) < (x.l.length : Int) := by omega
      go_upto_region 10 with fail
      have hb7 := bl_alloc (Below.refl wO.heap.size wO) (irB y ga gc)
      have hx7 := heap_alloc_new wO (irB y ga gc)
      have hS7 := HSP.out.on hb7
      have hpl := lt_of_some HSP.out.hpb
      have hreg := registers_any (S := S) y ga gc (wO.alloc (irB y ga gc)) (kInt.row_mono (by decide) HRW.out fun b hb hlt => ⟨hb, hb7.block b hlt⟩) HA.out
      unfold irV at hreg
      obtain ⟨e0, e1, e2, e3, e4, e5, e6, e7, e8⟩ := irB_at hx7
      have hz7 : wO.heap.size < (wO.alloc (irB y ga gc)).heap.size := by simp
      generalize wO.alloc (irB y ga gc) = w7 at hb7 hx7 hS7 hreg e0 e1 e2 e3 e4 e5 e6 e7 e8 hz7 ⊢
      have HS7 : Hid _ := hS7
      have HZ7 : Hid (pb < w7.heap.size) := Nat.lt_trans hpl hz7
      clear hb7 hx7 hS7 hpl hz7
      go_upto_region 11 with (first | (go_at_call 25; refine hreg.mono ?_; rintro e w8 ⟨⟨v, rfl, ra, rc, rfl, hrr, hrc⟩, hb8⟩))
      have hS8 := HS7.out.on hb8
      have hz8 : pb < w7.heap.size := HZ7.out
      have hrl : (regsL y).length ≤ 1000000000 := by have := regsL_len HA.out; omega
      generalize regsL y = rs at hrr hrc HR HD hrl
      have HS8 : Hid _ := hS8
      have HRR : Hid _ := hrr
      clear hreg hrr hb8 hS8 e0 e1 e2 e3 e4 e5 e6 e7 e8 HS7 HRW HA hgc hrc
      go_loopw [39] (fun j wi => ∃ t : Nat, t ≤ rs.length ∧ j = .int .i64 t ∧ SpAt w ob gb pb g (metAll g k o (rs.take t)) wi ∧ kInt.row wi (fun b => w7.heap.size ≤ b) ra rs) (fun j _ => rs.length - (intOf j).toNat)
      case atStart => exact ⟨0, Nat.zero_le _, rfl, HS8.out, HRR.out⟩
      case round =>
        obtain ⟨t, ht, rfl, hsi, hri⟩ := hrel
        have HSI : Hid _ := hsi
        have HRI2 : Hid _ := hri
        by_cases htl : t < rs.length
        · obtain ⟨b2, q2, rfl, hS2, hb2, hc2⟩ := int_at hri t htl
          have hT := metAll_take g k o rs t htl
          have hR := HR.out rs[t] (List.getElem_mem htl)
          obtain ⟨r, hr⟩ : ∃ r : Nat, rs[t] = r := ⟨rs[t].toNat, by omega⟩
          rw [hr] at hT hc2 hR
          have hcl : (metAll g k o (rs.take t)).length = n := by rw [metAll_length]; exact HOL.out
          have hmt := met_any gb ob pb g (metAll g k o (rs.take t)) r (k : Int) wr hsi.hgb hsi.hob hsi.hpb (by omega) hsi.n1
          have HT : Hid _ := hT
          have ht1 : (t : Int) < (rs.length : Int) := by omega
          clear hsi hri hT hR hS2 hb2 hr hcl
          go_wp2_with (first | (go_at_call 24; refine hmt.mono ?_; rintro e w9 ⟨rfl, hp9, hk9⟩))
          go_roundw
          case rel =>
            refine ⟨t + 1, by omega, by go_num, ?_, ?_⟩
            · rw [HT.out]
              exact HSI.out.met (metL_length _ _ _ _) hp9 hk9
            · exact kInt.row_mono (by decide) HRI2.out fun b hb hlt => ⟨hb, hk9.block b hlt (by omega)⟩
          case measure => simp [intOf]; omega
        · obtain rfl : t = rs.length := by omega
          rw [List.take_length] at HSI
          clear hsi hri
          go_wp2_with fail
          go_roundw
          case rel => exact ⟨k + 1, _, by omega, by go_num, by rw [metAll_length]; exact HOL.out, by rw [HQ.out, HD.out], HSI.out⟩
          case measure => simp [intOf]; omega
    · obtain rfl : k = x.l.length := by omega
      have hF : spansM x = o := by rw [hq, List.drop_length]; rfl
      have c1 : wO.cell? ⟨ob, 0, none⟩ = some (.slice (some ⟨pb, 0, none⟩) n n) := by
        have := hsp.hob
        rw [hol] at this
        simp [World.cell?, this]
      have HF : Hid _ := hF
      clear hq hsp hol hF
      go_wp2_with fail
      go_ret
      exact ⟨⟨pb, rfl, by rw [HF.out]; exact HSP.out.hpb, HSP.out.n3⟩, HSP.out.bl⟩
end Go.Proofs.Ytkbanngbchhgaaa
