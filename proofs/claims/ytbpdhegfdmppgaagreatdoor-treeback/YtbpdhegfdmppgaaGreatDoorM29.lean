/- Texts of this proof, put together: SFunc2, SUnit, SUnit2. -/
import Derived.Test.YtbpdhegfdmppgaaGreatDoorM28
import Derived.Test.YtbpdhegfdmppgaaGreatDoorM20

/- CONTRACT of funcNode, for all functions. -/
namespace Go.Proofs.YtbpdhegfdmppgaaGreatDoor.Sh
open Go.ChangeShapes Go.WideShapes Go.ChangeAt Go.RowKit

set_option maxRecDepth 100000 in
set_option maxHeartbeats 2000000 in
theorem func_yes {B : Nat} {S : Nat → Prop} (cs : Array Value) (name : List UInt8) (params : List Pa) (sec : Bool) (body : List Sm) (kk : Int) (nn : Nat) (oo : Int) (mm : List UInt8) (ll : List Ex) (a1 : Option Addr) (c1 : Nat) (a2 : Option Addr) (c2 : Nat) (a3 : Option Addr) (c3 : Nat) (w : World) (hcs : cs = fuA name a1 params.length c1 sec a2 body.length c2 kk nn oo mm a3 ll.length c3) (h6 : params.length ≤ 6) (hO : FuOk B S w a1 params a2 body c3 kk nn oo mm a3 ll) (hn : isName name = true) (zp : List Nd) (hs : eachO shP params = some zp) : Calls Tryz.prog 45 #[.agg cs] w (Shows NdV w (shF ⟨name, params, sec, body, .mk kk nn oo mm ll⟩)) := by
  have HFS : Hid (shF ⟨name, params, sec, body, .mk kk nn oo mm ll⟩ = (shSs body).bind fun b => (shE (.mk kk nn oo mm ll)).map fun r => fm [102, 110] (lf name :: ls zp :: shLab sec :: b ++ [fm [114, 101, 116] [r]])) := by show _ = _; rw [shF, if_pos h6, shName, if_pos hn, hs]; rfl
  have hnm := nameNode_any name
  rw [shName, if_pos hn] at hnm
  have hla := labelNode_any sec
  have hzp : zp.length ≤ 6 := by have := eachO_len shP params zp hs; omega
  have HP : Hid (∀ w1, Pr w 47 cs w1 → Calls Tryz.prog 85 #[.slice a1 params.length c1, .func (.func 86) #[] #[]] w1 (Shows kNd.rd w1 (some zp))) := fun w1 h => by rw [← hs]; exact hO.pars c1 (by omega) h.bl
  have HSB : Hid (∀ w1, Pr w 47 cs w1 → Calls Tryz.prog 88 #[.slice a2 body.length c2, .func (.func 89) #[] #[]] w1 (Shows kNd.rd w1 (shSs body))) := fun w1 h => hO.stmts c2 h.bl
  have HEX : Hid (∀ w1, Pr w 47 cs w1 → Calls Tryz.prog 90 #[exV kk nn oo mm a3 ll.length c3] w1 (Shows NdV w1 (shE (.mk kk nn oo mm ll)))) := fun w1 h => hO.result h.bl
  have hzb : ∀ z, shSs body = some z → z.length ≤ 100000 := fun z hz => by
    have := eachO_len shS body z (by rw [← shSs_each]; exact hz)
    have := smWs_len body
    have := hO.w2
    omega
  have h6' : (params.length : Int) ≤ 6 := by omega
  have q0 : cs[0]? = some (.string (bs name)) := by rw [hcs]; rfl
  have q1 : cs[1]? = some (.slice a1 params.length c1) := by rw [hcs]; rfl
  have q2 : cs[2]? = some (.bool sec) := by rw [hcs]; rfl
  have q3 : cs[3]? = some (.slice a2 body.length c2) := by rw [hcs]; rfl
  have q4 : cs[4]? = some (.int .i64 kk) := by rw [hcs]; rfl
  have q5 : cs[5]? = some (.int .u32 (nn : Nat)) := by rw [hcs]; rfl
  have q6 : cs[6]? = some (.int .i64 oo) := by rw [hcs]; rfl
  have q7 : cs[7]? = some (.string (bs mm)) := by rw [hcs]; rfl
  have q8 : cs[8]? = some (.slice a3 ll.length c3) := by rw [hcs]; rfl
  clear hn hcs h6 hs hO
  have R0 := Pr.start w 47 cs
  have cb := R0.cell
  have hz : w.heap.size < ((w.alloc (.cells cs 47)).alloc nd0).heap.size := by simp; omega
  go_enter Tryz.func45, Tryz.ntmps45
  go_wp2_with (first | (go_at_call 75; refine (must_yes _).mono ?_; rintro e w2 ⟨rfl, rfl⟩))
  clear cb hz
  generalize (w.alloc (.cells cs 47)).alloc nd0 = w1 at R0 ⊢
  have R1 : Pr w 47 cs w1.drew := R0.on (drew_bl w1)
  have sz := R0.lt
  have s1 : w1.cell? ⟨w.heap.size, 0, none⟩ = some (.string (bs name)) ∧ w1.cell? ⟨w.heap.size, 1, none⟩ = some (.slice a1 params.length c1) ∧ w1.cell? ⟨w.heap.size, 2, none⟩ = some (.bool sec) := ⟨(R0.cell 0).trans q0, (R0.cell 1).trans q1, (R0.cell 2).trans q2⟩
  go_region_held3 (fun w' => w'.cell? ⟨w.heap.size, 0, none⟩ = some (.string (bs name)) ∧ w'.cell? ⟨w.heap.size, 1, none⟩ = some (.slice a1 params.length c1) ∧ w'.cell? ⟨w.heap.size, 2, none⟩ = some (.bool sec))
    (first | with_reducible exact ⟨((R5.alloc _).cell 0).trans q0, ((R5.alloc _).cell 1).trans q1, ((R5.alloc _).cell 2).trans q2⟩ | with_reducible exact ⟨(R5.cell 0).trans q0, (R5.cell 1).trans q1, (R5.cell 2).trans q2⟩ | with_reducible exact ⟨(R4.cell 0).trans q0, (R4.cell 1).trans q1, (R4.cell 2).trans q2⟩ | with_reducible exact ⟨(R3.cell 0).trans q0, (R3.cell 1).trans q1, (R3.cell 2).trans q2⟩ | with_reducible exact ⟨(R2.cell 0).trans q0, (R2.cell 1).trans q1, (R2.cell 2).trans q2⟩ | with_reducible exact ⟨(R1.cell 0).trans q0, (R1.cell 1).trans q1, (R1.cell 2).trans q2⟩ | go_keep)
    (first | (go_at_call 77; refine (hnm _).mono ?_; rintro e w2 hG2; obtain ⟨v2, rfl, a21, k21, rfl, hc21, hr21⟩ := hG2.ok _ rfl; have R2 := R1.on hG2.below; have sz2 := R2.lt) | (go_at_call 85; refine (HP.out _ R2).mono ?_; rintro e w3 hG3; obtain ⟨v3, rfl, a31, k31, rfl, hr31, hc31⟩ := hG3.ok _ rfl; have R3 := R2.on hG3.below; have sz3 := R3.lt) | (go_at_call 84; refine (list_any _ _ _ _).mono ?_; rintro e w4 ⟨rfl, hb4⟩; have R4 := R3.on hb4; have sz4 := R4.lt) | (go_at_call 87; refine (hla _).mono ?_; rintro e w5 ⟨rfl, hb5⟩; have R5 := R4.on hb5; have sz5 := R5.lt))
  have hl5 : kNd.lay w5 (fun b => w.heap.size + 2 ≤ b ∧ b < w5.heap.size) [.bool false, .string (bs name), .slice a21 ([] : List Nd).length k21, .int .i64 0, .bool true, .string ⟨#[]⟩, .slice a31 zp.length k31, .int .i64 0, .bool false, .string (bs (lab sec)), .slice none ([] : List Nd).length 0, .int .i64 0] [lf name, ls zp, shLab sec] :=
    ⟨_, _, rfl, nd_C hc21 (kNd.row_mono (by decide) (row_on (row_on (row_on hr21 hG3.below) hb4) hb5) (fun i hi hlt => ⟨⟨by have : w1.heap.size ≤ i := hi; omega, hlt⟩, rfl⟩)), _, _, rfl, nd_C hc31 (kNd.row_mono (by decide) (row_on (row_on hr31 hb4) hb5) (fun i hi hlt => ⟨⟨by omega, hlt⟩, rfl⟩)), _, _, rfl, nd_C (Nat.le_refl _) trivial, rfl⟩
  have hown6 := own_n w5 w5.heap.size 66 4 3 [.bool false, .string (bs name), .slice a21 ([] : List Nd).length k21, .int .i64 0, .bool true, .string ⟨#[]⟩, .slice a31 zp.length k31, .int .i64 0, .bool false, .string (bs (lab sec)), .slice none ([] : List Nd).length 0, .int .i64 0] (Nat.le_refl _) rfl (by omega)
  have R6 := R5.alloc (.cells [.bool false, .string (bs name), .slice a21 ([] : List Nd).length k21, .int .i64 0, .bool true, .string ⟨#[]⟩, .slice a31 zp.length k31, .int .i64 0, .bool false, .string (bs (lab sec)), .slice none ([] : List Nd).length 0, .int .i64 0].toArray 66)
  have hl6 := kNd.lay_mono (w' := w5.alloc (.cells [.bool false, .string (bs name), .slice a21 ([] : List Nd).length k21, .int .i64 0, .bool true, .string ⟨#[]⟩, .slice a31 zp.length k31, .int .i64 0, .bool false, .string (bs (lab sec)), .slice none ([] : List Nd).length 0, .int .i64 0].toArray 66)) hl5 (fun b hb hlt => ⟨hb, heap_alloc_old w5 _ hlt⟩)
  have hz6 : (w5.alloc (.cells [.bool false, .string (bs name), .slice a21 ([] : List Nd).length k21, .int .i64 0, .bool true, .string ⟨#[]⟩, .slice a31 zp.length k31, .int .i64 0, .bool false, .string (bs (lab sec)), .slice none ([] : List Nd).length 0, .int .i64 0].toArray 66)).heap.size = w5.heap.size + 1 := by simp
  generalize w5.alloc (.cells [.bool false, .string (bs name), .slice a21 ([] : List Nd).length k21, .int .i64 0, .bool true, .string ⟨#[]⟩, .slice a31 zp.length k31, .int .i64 0, .bool false, .string (bs (lab sec)), .slice none ([] : List Nd).length 0, .int .i64 0].toArray 66) = w6 at hown6 R6 hl6 hz6 ⊢
  generalize ([.bool false, .string (bs name), .slice a21 ([] : List Nd).length k21, .int .i64 0, .bool true, .string ⟨#[]⟩, .slice a31 zp.length k31, .int .i64 0, .bool false, .string (bs (lab sec)), .slice none ([] : List Nd).length 0, .int .i64 0] : List Value) = X at hown6 hl6
  have HL6 : Hid _ := hl6
  have HO6 : Hid _ := hown6
  have t3 := (R6.cell 3).trans q3
  have hz6' : w.heap.size < w6.heap.size := by omega
  clear hl6 hown6 hl5 R5 R4 R3 R2 R1 R0 hG2 hG3 hb4 hb5 hr21 hr31 s1 hnm hla hc21 hc31
  cases hsb : shSs body with
  | none =>
    rw [hsb] at HSB HFS
    clear hsb hzb
    go_wp2_with (first | (go_at_call 88; refine (HSB.out _ R6).mono ?_; rintro e w7 hG7; obtain rfl := hG7.bad rfl))
    exact ⟨rfl, .ofBad (by rw [HFS.out]; rfl) (bl_then R6.bl hG7.below)⟩
  | some z =>
    have hzl := hzb z hsb
    rw [hsb] at HSB HFS
    clear hsb hzb
    go_wp2_with (first | (go_at_call 88; refine (HSB.out _ R6).mono ?_; rintro e w7 hG7; obtain ⟨v7, rfl, a7, k7, rfl, hr7, hc7⟩ := hG7.ok _ rfl; refine Hid.out ?_))
    refine Lib.hid ?_
    have hb7 := hG7.below
    have R7 := R6.on hb7
    have hz7 := hb7.size
    obtain ⟨csz, hlz, hsrc⟩ := kNd.src (c := k7) (tx := 23) Tryz.underlying23 (kNd.row_old (by decide) hr7)
    have HLZ : Hid _ := hlz
    have HL7 : Hid (kNd.lay w7 (fun b => w.heap.size + 2 ≤ b ∧ b < w5.heap.size) X [lf name, ls zp, shLab sec]) := kNd.lay_mono HL6.out fun b hb hlt => ⟨hb, hb7.block b hlt⟩
    have hown7 := own_on HO6.out hb7
    clear hlz hG7 t3 hr7
    go_wp2_with (first | (at_builtin; refine wpList_append_src nd_info rfl Tryz.underlying23 (by decide) _ rfl _ _ rfl w5.heap.size (Value.slice (some ⟨w5.heap.size, 0, none⟩) 3 3) 3 X rfl hown7 _ z.length csz rfl hsrc (by omega) (by omega) ?_; intro y8 k8 w8 hown8 hgrow8 hat8; refine Hid.out ?_) | go_in)
    refine Lib.hid ?_
    have R8 := R7.grow hgrow8 (fun k e => by simp [Value.ownBlock] at e; omega)
    have hz8 := hgrow8.size
    have HL8 : Hid (kNd.lay w8 (fun b => w.heap.size + 2 ≤ b ∧ b < w7.heap.size ∧ b ≠ w5.heap.size) (X ++ csz) ([lf name, ls zp, shLab sec] ++ z)) := lead_lay (g := w5.heap.size) HL7.out HLZ.out hgrow8 (fun b hb => ⟨⟨by have := hb.1; omega, hb.2, by have := hb.1; omega⟩, hb.2, by have := hb.1; omega⟩) (fun b hb => ⟨⟨hb.1, by omega, by omega⟩, by omega, by omega⟩)
    have HO8 : Hid _ := hown8
    have t4 := (R8.cell 4).trans q4
    have t5 := (R8.cell 5).trans q5
    have t6 := (R8.cell 6).trans q6
    have t7 := (R8.cell 7).trans q7
    have t8 := (R8.cell 8).trans q8
    have hz8' : w.heap.size < w8.heap.size := by omega
    obtain ⟨g8, hg8, hw8⟩ : ∃ g8, (Value.slice y8 (3 + z.length) k8).ownBlock = some g8 ∧ (g8 = w5.heap.size ∨ g8 = w7.heap.size) := by
      rcases hat8 with h | h
      · exact ⟨w5.heap.size, h, .inl rfl⟩
      · exact ⟨w7.heap.size, h, .inr rfl⟩
    have hlg8 : g8 < w8.heap.size := (hown8.lt g8 hg8).2
    have HG8 : Hid _ := hg8
    have HS8 : Hid (∀ b, w.heap.size + 2 ≤ b ∧ b < w7.heap.size ∧ b ≠ w5.heap.size → b ≠ g8) := fun b hb => by rcases hw8 with h | h <;> omega
    have hge8 : w.heap.size + 2 ≤ g8 := by rcases hw8 with h | h <;> omega
    clear hown8 hown7 hat8 hsrc hgrow8 R7 R6 hg8 hw8
    cases hse : shE (.mk kk nn oo mm ll) with
    | none =>
      rw [hse] at HEX HFS
      clear hse
      go_wp2_with (first | (go_at_call 90; refine (HEX.out _ R8).mono ?_; rintro e w9 hG9; obtain rfl := hG9.bad rfl))
      exact ⟨rfl, .ofBad (by rw [HFS.out]; rfl) (bl_then R8.bl hG9.below)⟩
    | some x =>
      obtain ⟨il, wd, ks, p⟩ := x
      rw [hse] at HEX HFS
      clear hse
      go_wp2_with (first | (go_at_call 90; refine (HEX.out _ R8).mono ?_; rintro e w9 hG9; obtain ⟨v9, rfl, a9, k9, rfl, hc9, hr9⟩ := hG9.ok _ rfl; refine Hid.out ?_))
      refine Lib.hid ?_
      have hb9 := hG9.below
      have hz9 := hb9.size
      have R9 := R8.on hb9
      have HL9 : Hid (kNd.lay w9 (fun b => w.heap.size + 2 ≤ b ∧ b < w7.heap.size ∧ b ≠ w5.heap.size) (X ++ csz) ([lf name, ls zp, shLab sec] ++ z)) := kNd.lay_mono HL8.out fun b hb hlt => ⟨hb, hb9.block b hlt⟩
      have HO9 : Hid _ := own_on HO8.out hb9
      have hro : kNd.row (w9.alloc (.cells #[.bool il, .string (bs wd), .slice a9 ks.length k9, .int .i64 p] 66)) (fun b => w8.heap.size ≤ b ∨ b = w9.heap.size) (some ⟨w9.heap.size, 0, none⟩) [.mk il wd ks p] := kNd.lay_blk (cs := [.bool il, .string (bs wd), .slice a9 ks.length k9, .int .i64 p]) ⟨_, _, rfl, nd_C hc9 hr9, rfl⟩
      have hfo := form_any [114, 101, 116] (some ⟨w9.heap.size, 0, none⟩) [.mk il wd ks p] 1 _ hro (by simp)
      clear hG9 hr9 hro t4 t5 t6 t7 t8
      go_wp2_with (first | (go_at_call 76; refine hfo.mono ?_; rintro e w11 ⟨⟨v11, rfl, a11, k11, rfl, hc11, hr11⟩, hb11⟩; refine Hid.out ?_))
      refine Lib.hid ?_
      have hz11 : w9.heap.size + 1 ≤ w11.heap.size := by have := hb11.size; simpa using this
      have R11 := (R9.alloc _).on hb11
      have R12 := R11.alloc (.cells #[.bool true, .string ⟨#[]⟩, .slice a11 2 k11, .int .i64 0] 66)
      have hown12 := own_on (own_on (own_on HO9.out (bl_alloc (Below.refl _ _) (.cells #[.bool il, .string (bs wd), .slice a9 ks.length k9, .int .i64 p] 66))) hb11) (bl_alloc (Below.refl _ _) (.cells #[.bool true, .string ⟨#[]⟩, .slice a11 2 k11, .int .i64 0] 66))
      have HL12 : Hid (kNd.lay (w11.alloc (.cells #[.bool true, .string ⟨#[]⟩, .slice a11 2 k11, .int .i64 0] 66)) (fun b => w.heap.size + 2 ≤ b ∧ b < w7.heap.size ∧ b ≠ w5.heap.size) (X ++ csz) ([lf name, ls zp, shLab sec] ++ z)) := kNd.lay_mono HL9.out fun b hb hlt => ⟨hb, by rw [heap_alloc_old w11 _ (by omega), hb11.block b (by simp; omega)]; exact heap_alloc_old w9 _ hlt⟩
      have HLN : Hid (kNd.lay (w11.alloc (.cells #[.bool true, .string ⟨#[]⟩, .slice a11 2 k11, .int .i64 0] 66)) (fun b => w8.heap.size ≤ b ∧ b < w11.heap.size) [.bool true, .string ⟨#[]⟩, .slice a11 2 k11, .int .i64 0] [fm [114, 101, 116] [.mk il wd ks p]]) :=
        ⟨_, _, rfl, nd_C hc11 (kNd.row_mono (by decide) hr11 fun i hi hlt => ⟨⟨by simp at hi; omega, hlt⟩, heap_alloc_old w11 _ hlt⟩), rfl⟩
      have hsrc := src_blk w11 23 66 Tryz.underlying23 w11.heap.size 4 [.bool true, .string ⟨#[]⟩, .slice a11 2 k11, .int .i64 0] rfl rfl (by simp [Value.oneCell'])
      clear hfo hr11 R9 R8 hb11 R11
      go_wp2_with (first | (at_builtin; refine wpList_append_src nd_info rfl Tryz.underlying23 (by decide) _ rfl _ _ rfl w5.heap.size (Value.slice y8 (3 + z.length) k8) (3 + z.length) (X ++ csz) rfl hown12 _ 1 [.bool true, .string ⟨#[]⟩, .slice a11 2 k11, .int .i64 0] rfl hsrc (by omega) (by simp; omega) ?_; intro y13 k13 w13 hown13 hgrow13 hat13; refine Hid.out ?_) | go_in)
      refine Lib.hid ?_
      rw [HG8.out] at hgrow13
      have R13 := R12.grow hgrow13 (fun k e => by injection e with e; omega)
      have hz13 := hgrow13.size
      obtain ⟨hrow13, hc13⟩ := lead_rows (g := g8) (l := ([lf name, ls zp, shLab sec] ++ z)) (n := 3 + z.length + 1) (by simp; omega) HL12.out HLN.out hgrow13 (fun b hb => ⟨by have := hb.2; simp; omega, by have := hb.1; omega⟩) (fun b hb => ⟨by simp; omega, HS8.out b hb⟩) hown13
      have hfn := form_rows (s := [102, 110]) (c := k13) (l := ([lf name, ls zp, shLab sec] ++ z) ++ [fm [114, 101, 116] [.mk il wd ks p]]) (n := 3 + z.length + 1) (by simp; omega) (kNd.row_mono (T := fun b => w.heap.size + 2 ≤ b) (by decide) hrow13 fun b hb _ => ⟨by rcases hb with (hb | hb) | hb; exact hb.1; (have := hb.1; omega); omega, rfl⟩) (by omega)
      clear hrow13 hown13 hgrow13 hat13 hsrc hown12
      go_wp2_with (first | (go_at_call 76; refine hfn.mono ?_; rintro e w14 ⟨⟨v14, rfl, a14, k14, rfl, hc14, hr14⟩, hb14⟩; refine Hid.out ?_))
      refine Lib.hid ?_
      have R14 := R13.on hb14
      have hres14 := R14.res
      have hlt14 := R14.lt
      have HB14 : Hid (Below w.heap.size w w14) := R14.bl
      have HR14 : Hid (kNd.row w14 (fun b => w.heap.size + 2 ≤ b ∨ w13.heap.size ≤ b) a14 (lf [102, 110] :: (([lf name, ls zp, shLab sec] ++ z) ++ [fm [114, 101, 116] [.mk il wd ks p]]))) := hr14
      obtain ⟨d0, d1, d2, d3, g0, g1, g2, g3⟩ := nd_free hres14
      have hlt14' : w.heap.size + 1 < w14.heap.size := by omega
      have HZ13 : Hid (w.heap.size + 2 ≤ w13.heap.size) := R13.lt
      clear hr14 hb14 R14 R13 hfn R12
      go_wp2_with fail
      exact bodyPost_ret_by (results_row Tryz.results45 rfl (load_nd (set4c hres14) rfl)) rfl (.ofOk (x := fm [102, 110] (([lf name, ls zp, shLab sec] ++ z) ++ [fm [114, 101, 116] [.mk il wd ks p]])) (by rw [HFS.out]; rfl) (bl_set4 HB14.out _ _ _ _ _ (by omega)) ⟨a14, k14, by simp, hc14, kNd.row_mono (by decide) HR14.out fun i hi _ => by
        have h2 : w.heap.size + 2 ≤ i := by
          rcases hi with h | h
          · exact h
          · have := HZ13.out; omega
        exact ⟨by omega, set4o (by omega)⟩⟩)
theorem func_any {B : Nat} {S : Nat → Prop} (cs : Array Value) (name : List UInt8) (params : List Pa) (sec : Bool) (body : List Sm) (kk : Int) (nn : Nat) (oo : Int) (mm : List UInt8) (ll : List Ex) (a1 : Option Addr) (c1 : Nat) (a2 : Option Addr) (c2 : Nat) (a3 : Option Addr) (c3 : Nat) (w : World) (hcs : cs = fuA name a1 params.length c1 sec a2 body.length c2 kk nn oo mm a3 ll.length c3) (hO : FuOk B S w a1 params a2 body c3 kk nn oo mm a3 ll) : Calls Tryz.prog 45 #[.agg cs] w (Shows NdV w (shF ⟨name, params, sec, body, .mk kk nn oo mm ll⟩)) := by
  by_cases h6 : params.length ≤ 6
  · rcases hn : isName name with _ | _
    · exact func_name cs name params sec body kk nn oo mm ll a1 c1 a2 c2 a3 c3 w hcs h6 hn
    · cases hs : eachO shP params with
      | none => exact func_pars cs name params sec body kk nn oo mm ll a1 c1 a2 c2 a3 c3 w hcs h6 hO hn hs
      | some zp => exact func_yes cs name params sec body kk nn oo mm ll a1 c1 a2 c2 a3 c3 w hcs h6 hO hn zp hs
  · exact func_many cs params a1 c1 w _ (by rw [shF, if_neg h6]) (by rw [hcs]; rfl) h6
end Go.Proofs.YtbpdhegfdmppgaaGreatDoor.Sh

/- CONTRACT of unitNodes, for all units. -/
namespace Go.Proofs.YtbpdhegfdmppgaaGreatDoor.Sh
open Go.ChangeShapes Go.WideShapes Go.ChangeAt Go.RowKit

/-- What came in lies in its block. -/
structure Ub (w : World) (t : TypeId) (cs : Array Value) (w' : World) : Prop where
  box : w'.heap[w.heap.size]? = some (.cells cs t)
  bl : Below w.heap.size w w'
section
variable {w w1 w2 : World} {t : TypeId} {cs : Array Value}
theorem Ub.on (h : Ub w t cs w1) (hb : Below w1.heap.size w1 w2) : Ub w t cs w2 :=
  ⟨by rw [hb.block _ (lt_of_some h.box)]; exact h.box, bl_then h.bl hb⟩
theorem Ub.alloc (h : Ub w t cs w1) (o : Obj) : Ub w t cs (w1.alloc o) := h.on ((Below.refl _ _).alloc (Nat.le_refl _) o)
theorem Ub.lt (h : Ub w t cs w1) : w.heap.size + 1 ≤ w1.heap.size := lt_of_some h.box
theorem Ub.cell (h : Ub w t cs w1) (i : Nat) : w1.cell? ⟨w.heap.size, i, none⟩ = cs[i]? := by simp [World.cell?, h.box]
theorem Ub.start (w : World) (t : TypeId) (cs : Array Value) : Ub w t cs (w.alloc (.cells cs t)) := ⟨heap_alloc_new w _, (Below.refl _ _).alloc (Nat.le_refl _) _⟩
theorem Ub.grow {row : Option Nat} (h : Ub w t cs w1) (hg : w1.grownBy w2 row) (hr : ∀ k, row = some k → w.heap.size + 1 ≤ k) : Ub w t cs w2 := by
  have hb : ∀ k, k < w.heap.size + 1 → w2.heap[k]? = w1.heap[k]? := fun k hk => hg.block k (Nat.lt_of_lt_of_le hk h.lt) fun e => by have := hr k e.symm; omega
  exact ⟨by rw [hb _ (by omega)]; exact h.box, ⟨hg.os.trans h.bl.os, hg.tape.trans h.bl.tape, hg.output.trans h.bl.output, Nat.le_trans h.bl.size hg.size, fun k hk => by rw [hb k (by omega)]; exact h.bl.block k hk⟩⟩
end
/-- What a function may be, that it is shown or refused. -/
structure FuFits (f : Fu) : Prop where
  w2 : smWs f.body ≤ 100000
  w3 : exW f.result ≤ 1000000
  o2 : smOks f.body
  o3 : exOk f.result
theorem func_of {B : Nat} {S : Nat → Prop} {w : World} {v : Value} {x : Fu} (hg : Glob B w) (hf : FuFits x) (hv : FuV w S v x) : Calls Tryz.prog 45 #[v] w (Shows NdV w (shF x)) := by
  obtain ⟨cs, rfl, hc⟩ := hv
  obtain ⟨name, params, sec, body, k, n, o, m, l⟩ := x
  obtain ⟨a1, c1, a2, c2, a3, c3, rfl, l1, l2, l3, r1, r2, r3⟩ := hc
  exact func_any _ name params sec body k n o m l a1 c1 a2 c2 a3 c3 w rfl ⟨hg, r1, r2, r3, l3, hf.w2, hf.w3, hf.o2, hf.o3⟩
structure UnOk (B : Nat) (S : Nat → Prop) (w : World) (a1 : Option Addr) (imports : List (List UInt8)) (a2 : Option Addr) (funcs : List Fu) : Prop where
  glob : Glob B w
  r1 : kStr.row w S a1 imports
  r2 : kFu.row w S a2 funcs
  ok : ∀ f ∈ funcs, FuFits f
section
variable {B : Nat} {S : Nat → Prop} {w w1 : World} {a1 : Option Addr} {imports : List (List UInt8)} {a2 : Option Addr} {funcs : List Fu}
theorem UnOk.names (h : UnOk B S w a1 imports a2 funcs) (c : Nat) (hl : imports.length ≤ 1000000) (hb : Below w.heap.size w w1) : Calls Tryz.prog 78 #[.slice a1 imports.length c, .func (.func 77) #[] #[]] w1 (Shows kNd.rd w1 (eachO shName imports)) :=
  eachN_any w1 a1 imports c (kStr.row_mono (T := S) (by decide) h.r1 fun i hi hlt => ⟨hi, hb.block i hlt⟩) hl
theorem UnOk.fns (h : UnOk B S w a1 imports a2 funcs) (c : Nat) (hl : funcs.length ≤ 1000000) (hb : Below w.heap.size w w1) : Calls Tryz.prog 79 #[.slice a2 funcs.length c, .func (.func 45) #[] #[]] w1 (Shows kNd.rd w1 (eachO shF funcs)) :=
  eachF_any w1 a2 funcs c (kFu.row_mono (T := S) (by decide) h.r2 fun i hi hlt => ⟨hi, hb.block i hlt⟩) hl (h.glob.below hb) fun x hx _ _ _ hg hv => func_of hg (h.ok x hx) hv
end
set_option maxRecDepth 100000 in
set_option maxHeartbeats 2000000 in
theorem unit_many (cs : Array Value) (name : List UInt8) (imports : List (List UInt8)) (funcs : List Fu) (a1 : Option Addr) (c1 : Nat) (a2 : Option Addr) (c2 : Nat) (w : World) (_ : cs[0]? = some (.string (bs name))) (q1 : cs[1]? = some (.slice a1 imports.length c1)) (q2 : cs[2]? = some (.slice a2 funcs.length c2)) (h : ¬ (imports.length ≤ 7 ∧ funcs.length ≤ 16)) : Calls Tryz.prog 40 #[.agg cs] w (Shows kNd.rd w (shU ⟨name, imports, funcs⟩)) := by
  have HF : Hid (shU ⟨name, imports, funcs⟩ = none) := by show _ = _; rw [shU, if_neg h]
  have R0 := Ub.start w 30 cs
  have cb := R0.cell
  have hz : w.heap.size < (w.alloc (.cells cs 30)).heap.size := by simp
  by_cases h7 : imports.length ≤ 7
  · have g1 : decide ((imports.length : Int) ≤ 7) = true := by simp; omega
    have g1' : (imports.length : Int) ≤ 7 := by omega
    have g2 : decide ((funcs.length : Int) ≤ 16) = false := by simp; omega
    have g3 : (16 : Int) < (funcs.length : Int) := by omega
    clear h h7
    go_enter Tryz.func40, Tryz.ntmps40
    go_wp2_with (first | (go_at_call 75; refine (must_no _).mono ?_; rintro e w2 ⟨rfl, rfl⟩))
    exact ⟨rfl, .ofBad HF.out R0.bl⟩
  · have g1 : decide ((imports.length : Int) ≤ 7) = false := by simp; omega
    have g1' : (7 : Int) < (imports.length : Int) := by omega
    clear h h7
    go_enter Tryz.func40, Tryz.ntmps40
    go_wp2_with (first | (go_at_call 75; refine (must_no _).mono ?_; rintro e w2 ⟨rfl, rfl⟩))
    exact ⟨rfl, .ofBad HF.out R0.bl⟩
set_option maxRecDepth 100000 in
set_option maxHeartbeats 2000000 in
theorem unit_name (cs : Array Value) (name : List UInt8) (imports : List (List UInt8)) (funcs : List Fu) (a1 : Option Addr) (c1 : Nat) (a2 : Option Addr) (c2 : Nat) (w : World) (q0 : cs[0]? = some (.string (bs name))) (q1 : cs[1]? = some (.slice a1 imports.length c1)) (q2 : cs[2]? = some (.slice a2 funcs.length c2)) (h : imports.length ≤ 7 ∧ funcs.length ≤ 16) (hn : isName name = false) : Calls Tryz.prog 40 #[.agg cs] w (Shows kNd.rd w (shU ⟨name, imports, funcs⟩)) := by
  have hns : shName name = none := by rw [shName, hn]; rfl
  have HF : Hid (shU ⟨name, imports, funcs⟩ = none) := by show _ = _; rw [shU, if_pos h, hns]; rfl
  have hnm := nameNode_any name
  rw [hns] at hnm
  have R0 := Ub.start w 30 cs
  have cb := R0.cell
  have hz : w.heap.size < (w.alloc (.cells cs 30)).heap.size := by simp
  have g1 : decide ((imports.length : Int) ≤ 7) = true := by simp; omega
  have g1' : (imports.length : Int) ≤ 7 := by omega
  have g2 : decide ((funcs.length : Int) ≤ 16) = true := by simp; omega
  have g2' : (funcs.length : Int) ≤ 16 := by omega
  clear h hn hns
  go_enter Tryz.func40, Tryz.ntmps40
  go_wp2_with (first | (go_at_call 75; refine (must_yes _).mono ?_; rintro e w2 ⟨rfl, rfl⟩) | (go_at_call 77; refine (hnm _).mono ?_; rintro e w2 hG2; obtain rfl := hG2.bad rfl))
  exact ⟨rfl, .ofBad HF.out (bl_then R0.bl hG2.below)⟩
set_option maxRecDepth 100000 in
set_option maxHeartbeats 2000000 in
theorem unit_bare {B : Nat} {S : Nat → Prop} (cs : Array Value) (name : List UInt8) (imports : List (List UInt8)) (funcs : List Fu) (a1 : Option Addr) (c1 : Nat) (a2 : Option Addr) (c2 : Nat) (w : World) (q0 : cs[0]? = some (.string (bs name))) (q1 : cs[1]? = some (.slice a1 imports.length c1)) (q2 : cs[2]? = some (.slice a2 funcs.length c2)) (h : imports.length ≤ 7 ∧ funcs.length ≤ 16) (hO : UnOk B S w a1 imports a2 funcs) (hn : isName name = true) (hi : imports = []) : Calls Tryz.prog 40 #[.agg cs] w (Shows kNd.rd w (shU ⟨name, imports, funcs⟩)) := by
  have HFS : Hid (shU ⟨name, imports, funcs⟩ = (eachO shF funcs).map fun fs => [fm [117, 110, 105, 116] [lf name]] ++ fs) := by show _ = _; rw [shU, if_pos h, shName, if_pos hn]; subst hi; rfl
  have hi0 : imports.length = 0 := by rw [hi]; rfl
  have g5 : decide ((imports.length : Int) > 0) = false := by simp; omega
  have g5' : (imports.length : Int) ≤ 0 := by omega
  clear hi
  have hnm := nameNode_any name
  rw [shName, if_pos hn] at hnm
  have HN : Hid (∀ w1, Ub w 30 cs w1 → Calls Tryz.prog 78 #[.slice a1 imports.length c1, .func (.func 77) #[] #[]] w1 (Shows kNd.rd w1 (eachO shName imports))) := fun w1 h1 => hO.names c1 (by omega) h1.bl
  have HE : Hid (∀ w1, Ub w 30 cs w1 → Calls Tryz.prog 79 #[.slice a2 funcs.length c2, .func (.func 45) #[] #[]] w1 (Shows kNd.rd w1 (eachO shF funcs))) := fun w1 h1 => hO.fns c2 (by omega) h1.bl
  have hzl : ∀ z, eachO shF funcs = some z → z.length ≤ 16 := fun z e => by have := eachO_len shF funcs z e; omega
  have hzi : ∀ z, eachO shName imports = some z → z.length ≤ 7 := fun z e => by have := eachO_len shName imports z e; omega
  have R0 := Ub.start w 30 cs
  have cb := R0.cell
  have hz : w.heap.size < (w.alloc (.cells cs 30)).heap.size := by simp
  have g1 : decide ((imports.length : Int) ≤ 7) = true := by simp; omega
  have g1' : (imports.length : Int) ≤ 7 := by omega
  have g2 : decide ((funcs.length : Int) ≤ 16) = true := by simp; omega
  have g2' : (funcs.length : Int) ≤ 16 := by omega
  clear h hn hO
  go_enter Tryz.func40, Tryz.ntmps40
  go_wp2_with (first | (go_at_call 75; refine (must_yes _).mono ?_; rintro e w2 ⟨rfl, rfl⟩) | (go_at_call 77; refine (hnm _).mono ?_; rintro e w2 hG2; obtain ⟨v2, rfl, a21, k21, rfl, hc21, hr21⟩ := hG2.ok _ rfl; refine Hid.out ?_))
  refine Lib.hid ?_
  have sz1 := R0.lt
  have R2 := R0.on hG2.below
  have sz2 := hG2.below.size
  have hro : kNd.row (w2.alloc (.cells #[.bool false, .string (bs name), .slice a21 0 k21, .int .i64 0] 66)) (fun b => w.heap.size + 1 ≤ b ∨ b = w2.heap.size) (some ⟨w2.heap.size, 0, none⟩) [lf name] := kNd.lay_blk (cs := [.bool false, .string (bs name), .slice a21 0 k21, .int .i64 0]) ⟨_, _, rfl, nd_C hc21 (kNd.row_mono (by decide) hr21 fun i hi _ => ⟨by have : (w.alloc (.cells cs 30)).heap.size ≤ i := hi; omega, rfl⟩), rfl⟩
  have hfo := form_any [117, 110, 105, 116] (some ⟨w2.heap.size, 0, none⟩) [lf name] 1 _ hro (by simp)
  clear hG2 hr21 hro hnm
  go_wp2_with (first | (go_at_call 76; refine hfo.mono ?_; rintro e w3 ⟨⟨v3, rfl, a3, k3, rfl, hc3, hr3⟩, hb3⟩; refine Hid.out ?_))
  refine Lib.hid ?_
  have sz3 : w2.heap.size + 1 ≤ w3.heap.size := by have := hb3.size; simpa using this
  have R3 := (R2.alloc _).on hb3
  have hr3' : kNd.row w3 (fun b => w.heap.size + 1 ≤ b ∧ b < w3.heap.size) a3 [lf [117, 110, 105, 116], lf name] := kNd.row_mono (by decide) hr3 fun i hi hlt => ⟨⟨by simp at hi; have := R0.lt; omega, hlt⟩, rfl⟩
  clear hr3 hb3 hfo R2 R0 cb hz
  have R4 := R3.alloc (.cells #[.bool true, .string (bs []), .slice a3 2 k3, .int .i64 0] 66)
  have hl4 : kNd.lay (w3.alloc (.cells #[.bool true, .string (bs []), .slice a3 2 k3, .int .i64 0] 66)) (fun b => w.heap.size + 1 ≤ b ∧ b < w3.heap.size) [.bool true, .string (bs []), .slice a3 2 k3, .int .i64 0] [fm [117, 110, 105, 116] [lf name]] := ⟨_, _, rfl, nd_C hc3 (kNd.row_mono (by decide) hr3' fun i hi hlt => ⟨hi, heap_alloc_old w3 _ hlt⟩), rfl⟩
  have hown4 := own_n w3 w3.heap.size 66 4 1 [.bool true, .string (bs []), .slice a3 2 k3, .int .i64 0] (Nat.le_refl _) rfl (by omega)
  have sz4 : w3.heap.size + 1 = (w3.alloc (.cells #[.bool true, .string (bs []), .slice a3 2 k3, .int .i64 0] 66)).heap.size := by simp
  have HR4 : Hid (Ub w 30 cs (w3.alloc (.cells #[.bool true, .string (bs []), .slice a3 2 k3, .int .i64 0] 66))) := R4
  have HL4 : Hid _ := hl4
  have HO4 : Hid _ := hown4
  have t1 := (R4.cell 1).trans q1
  have t2 := (R4.cell 2).trans q2
  have sz4' : w.heap.size < (w3.alloc (.cells #[.bool true, .string (bs []), .slice a3 2 k3, .int .i64 0] 66)).heap.size := by omega
  clear R4 hl4 hown4 hr3'
  cases hs : eachO shF funcs with
  | none =>
    rw [hs] at HE HFS
    clear hs hzl hzi
    go_wp2_with (first | (go_at_call 79; refine (HE.out _ HR4.out).mono ?_; rintro e w5 hG5; obtain rfl := hG5.bad rfl))
    exact ⟨rfl, .ofBad (by rw [HFS.out]; rfl) (bl_then HR4.out.bl hG5.below)⟩
  | some z =>
    have hz := hzl z hs
    rw [hs] at HE HFS
    clear hs hzl hzi
    go_wp2_with (first | (go_at_call 79; refine (HE.out _ HR4.out).mono ?_; rintro e w5 hG5; obtain ⟨v5, rfl, a5, k5, rfl, hr5, hc5⟩ := hG5.ok _ rfl; refine Hid.out ?_))
    refine Lib.hid ?_
    have hb5 := hG5.below
    have R5 := HR4.out.on hb5
    have sz5 := hb5.size
    obtain ⟨csz, hlz, hsrc⟩ := kNd.src (c := k5) (tx := 23) Tryz.underlying23 (kNd.row_old (by decide) hr5)
    have HLZ : Hid _ := hlz
    have HL5 : Hid (kNd.lay w5 (fun b => w.heap.size + 1 ≤ b ∧ b < w3.heap.size) [.bool true, .string (bs []), .slice a3 2 k3, .int .i64 0] [fm [117, 110, 105, 116] [lf name]]) := kNd.lay_mono HL4.out fun b hb hlt => ⟨hb, hb5.block b hlt⟩
    have hown5 := own_on HO4.out hb5
    clear hlz hG5 t1 t2 hr5
    go_wp2_with (first | (at_builtin; refine wpList_append_src nd_info rfl Tryz.underlying23 (by decide) _ rfl _ _ rfl w3.heap.size (Value.slice (some ⟨w3.heap.size, 0, none⟩) 1 1) 1 [.bool true, .string (bs []), .slice a3 2 k3, .int .i64 0] rfl hown5 _ z.length csz rfl hsrc (by omega) (by omega) ?_; intro y6 k6 w6 hown6 hgrow6 hat6; refine Hid.out ?_) | go_in)
    refine Lib.hid ?_
    have R6 := R5.grow hgrow6 (fun k e => by simp [Value.ownBlock] at e; omega)
    obtain ⟨hrow6, hc6⟩ := lead_rows (g := w3.heap.size) (l := [fm [117, 110, 105, 116] [lf name]]) (n := 1 + z.length) rfl HL5.out HLZ.out hgrow6 (fun b hb => ⟨hb.2, by have := hb.1; omega⟩) (fun b hb => ⟨by omega, by omega⟩) hown6
    have HB6 : Hid (Below w.heap.size w w6) := R6.bl
    have HV6 : Hid (kNd.rd w6 (fun b => w.heap.size ≤ b) (.slice y6 (1 + z.length) k6) ([fm [117, 110, 105, 116] [lf name]] ++ z)) := ⟨y6, k6, by simp; omega, kNd.row_mono (by decide) hrow6 fun b hb _ => ⟨by rcases hb with (hb | hb) | hb; (have := hb.1; omega); (have := hb.1; omega); omega, rfl⟩, by simp; omega⟩
    clear hrow6 hown6 hgrow6 hat6 hsrc hown5 R6 R5
    go_wp2_with fail
    go_ret
    exact .ofOk (by rw [HFS.out]; rfl) HB6.out HV6.out
end Go.Proofs.YtbpdhegfdmppgaaGreatDoor.Sh

/- CONTRACT of unitNodes, for all units. -/
namespace Go.Proofs.YtbpdhegfdmppgaaGreatDoor.Sh
open Go.ChangeShapes Go.WideShapes Go.ChangeAt Go.RowKit

set_option maxRecDepth 100000 in
set_option maxHeartbeats 2000000 in
theorem unit_imps {B : Nat} {S : Nat → Prop} (cs : Array Value) (name : List UInt8) (imports : List (List UInt8)) (funcs : List Fu) (a1 : Option Addr) (c1 : Nat) (a2 : Option Addr) (c2 : Nat) (w : World) (q0 : cs[0]? = some (.string (bs name))) (q1 : cs[1]? = some (.slice a1 imports.length c1)) (q2 : cs[2]? = some (.slice a2 funcs.length c2)) (h : imports.length ≤ 7 ∧ funcs.length ≤ 16) (hO : UnOk B S w a1 imports a2 funcs) (hn : isName name = true) (hi : imports ≠ []) : Calls Tryz.prog 40 #[.agg cs] w (Shows kNd.rd w (shU ⟨name, imports, funcs⟩)) := by
  have HFS : Hid (shU ⟨name, imports, funcs⟩ = (eachO shName imports).bind fun im => (eachO shF funcs).map fun fs => [fm [117, 110, 105, 116] [lf name], fm [105, 109, 112, 111, 114, 116] im] ++ fs) := by show _ = _; rw [shU, if_pos h, shName, if_pos hn]; simp only [if_neg hi]; rfl
  have hi0 : 0 < imports.length := List.length_pos_iff.2 hi
  have g5 : decide ((imports.length : Int) > 0) = true := by simp; omega
  have g5' : (0 : Int) < (imports.length : Int) := by omega
  clear hi
  have hnm := nameNode_any name
  rw [shName, if_pos hn] at hnm
  have HN : Hid (∀ w1, Ub w 30 cs w1 → Calls Tryz.prog 78 #[.slice a1 imports.length c1, .func (.func 77) #[] #[]] w1 (Shows kNd.rd w1 (eachO shName imports))) := fun w1 h1 => hO.names c1 (by omega) h1.bl
  have HE : Hid (∀ w1, Ub w 30 cs w1 → Calls Tryz.prog 79 #[.slice a2 funcs.length c2, .func (.func 45) #[] #[]] w1 (Shows kNd.rd w1 (eachO shF funcs))) := fun w1 h1 => hO.fns c2 (by omega) h1.bl
  have hzl : ∀ z, eachO shF funcs = some z → z.length ≤ 16 := fun z e => by have := eachO_len shF funcs z e; omega
  have hzi : ∀ z, eachO shName imports = some z → z.length ≤ 7 := fun z e => by have := eachO_len shName imports z e; omega
  have R0 := Ub.start w 30 cs
  have cb := R0.cell
  have hz : w.heap.size < (w.alloc (.cells cs 30)).heap.size := by simp
  have g1 : decide ((imports.length : Int) ≤ 7) = true := by simp; omega
  have g1' : (imports.length : Int) ≤ 7 := by omega
  have g2 : decide ((funcs.length : Int) ≤ 16) = true := by simp; omega
  have g2' : (funcs.length : Int) ≤ 16 := by omega
  clear h hn hO
  go_enter Tryz.func40, Tryz.ntmps40
  go_wp2_with (first | (go_at_call 75; refine (must_yes _).mono ?_; rintro e w2 ⟨rfl, rfl⟩) | (go_at_call 77; refine (hnm _).mono ?_; rintro e w2 hG2; obtain ⟨v2, rfl, a21, k21, rfl, hc21, hr21⟩ := hG2.ok _ rfl; refine Hid.out ?_))
  refine Lib.hid ?_
  have sz1 := R0.lt
  have R2 := R0.on hG2.below
  have sz2 := hG2.below.size
  have hro : kNd.row (w2.alloc (.cells #[.bool false, .string (bs name), .slice a21 0 k21, .int .i64 0] 66)) (fun b => w.heap.size + 1 ≤ b ∨ b = w2.heap.size) (some ⟨w2.heap.size, 0, none⟩) [lf name] := kNd.lay_blk (cs := [.bool false, .string (bs name), .slice a21 0 k21, .int .i64 0]) ⟨_, _, rfl, nd_C hc21 (kNd.row_mono (by decide) hr21 fun i hi _ => ⟨by have : (w.alloc (.cells cs 30)).heap.size ≤ i := hi; omega, rfl⟩), rfl⟩
  have hfo := form_any [117, 110, 105, 116] (some ⟨w2.heap.size, 0, none⟩) [lf name] 1 _ hro (by simp)
  clear hG2 hr21 hro hnm
  go_wp2_with (first | (go_at_call 76; refine hfo.mono ?_; rintro e w3 ⟨⟨v3, rfl, a3, k3, rfl, hc3, hr3⟩, hb3⟩; refine Hid.out ?_))
  refine Lib.hid ?_
  have sz3 : w2.heap.size + 1 ≤ w3.heap.size := by have := hb3.size; simpa using this
  have R3 := (R2.alloc _).on hb3
  have hr3' : kNd.row w3 (fun b => w.heap.size + 1 ≤ b ∧ b < w3.heap.size) a3 [lf [117, 110, 105, 116], lf name] := kNd.row_mono (by decide) hr3 fun i hi hlt => ⟨⟨by simp at hi; have := R0.lt; omega, hlt⟩, rfl⟩
  clear hr3 hb3 hfo R2 R0 cb hz
  have R4 := R3.alloc (.cells #[.bool true, .string (bs []), .slice a3 2 k3, .int .i64 0] 66)
  have hl4 : kNd.lay (w3.alloc (.cells #[.bool true, .string (bs []), .slice a3 2 k3, .int .i64 0] 66)) (fun b => w.heap.size + 1 ≤ b ∧ b < w3.heap.size) [.bool true, .string (bs []), .slice a3 2 k3, .int .i64 0] [fm [117, 110, 105, 116] [lf name]] := ⟨_, _, rfl, nd_C hc3 (kNd.row_mono (by decide) hr3' fun i hi hlt => ⟨hi, heap_alloc_old w3 _ hlt⟩), rfl⟩
  have hown4 := own_n w3 w3.heap.size 66 4 1 [.bool true, .string (bs []), .slice a3 2 k3, .int .i64 0] (Nat.le_refl _) rfl (by omega)
  have sz4 : w3.heap.size + 1 = (w3.alloc (.cells #[.bool true, .string (bs []), .slice a3 2 k3, .int .i64 0] 66)).heap.size := by simp
  have HR4 : Hid (Ub w 30 cs (w3.alloc (.cells #[.bool true, .string (bs []), .slice a3 2 k3, .int .i64 0] 66))) := R4
  have HL4 : Hid _ := hl4
  have HO4 : Hid _ := hown4
  have t1 := (R4.cell 1).trans q1
  have t2 := (R4.cell 2).trans q2
  have sz4' : w.heap.size < (w3.alloc (.cells #[.bool true, .string (bs []), .slice a3 2 k3, .int .i64 0] 66)).heap.size := by omega
  clear R4 hl4 hown4 hr3'
  cases hsi : eachO shName imports with
  | none =>
    rw [hsi] at HN HFS
    clear hsi hzl hzi
    go_wp2_with (first | (go_at_call 78; refine (HN.out _ HR4.out).mono ?_; rintro e w5 hG5; obtain rfl := hG5.bad rfl))
    exact ⟨rfl, .ofBad (by rw [HFS.out]; rfl) (bl_then HR4.out.bl hG5.below)⟩
  | some im =>
    have hzm := hzi im hsi
    rw [hsi] at HN HFS
    clear hsi hzi
    go_wp2_with (first | (go_at_call 78; refine (HN.out _ HR4.out).mono ?_; rintro e w5 hG5; obtain ⟨v5, rfl, a5, k5, rfl, hr5, hc5⟩ := hG5.ok _ rfl; refine Hid.out ?_))
    refine Lib.hid ?_
    have hb5 := hG5.below
    have R5 := HR4.out.on hb5
    have sz5 := hb5.size
    have HL5 : Hid (kNd.lay w5 (fun b => w.heap.size + 1 ≤ b ∧ b < w3.heap.size) [.bool true, .string (bs []), .slice a3 2 k3, .int .i64 0] [fm [117, 110, 105, 116] [lf name]]) := kNd.lay_mono HL4.out fun b hb hlt => ⟨hb, hb5.block b hlt⟩
    have HO5 : Hid _ := own_on HO4.out hb5
    have hfo := form_any [105, 109, 112, 111, 114, 116] a5 im k5 w5 hr5 (by omega)
    clear hG5 t1 t2 hr5
    go_wp2_with (first | (go_at_call 76; refine hfo.mono ?_; rintro e w6 ⟨⟨v6, rfl, a6, k6, rfl, hc6, hr6⟩, hb6⟩; refine Hid.out ?_))
    refine Lib.hid ?_
    have sz6 := hb6.size
    have R7 := (R5.on hb6).alloc (.cells #[.bool true, .string (bs []), .slice a6 (im.length + 1) k6, .int .i64 0] 66)
    have hown7 := own_on (own_on HO5.out hb6) (bl_alloc (Below.refl _ _) (.cells #[.bool true, .string (bs []), .slice a6 (im.length + 1) k6, .int .i64 0] 66))
    have HL7 : Hid (kNd.lay (w6.alloc (.cells #[.bool true, .string (bs []), .slice a6 (im.length + 1) k6, .int .i64 0] 66)) (fun b => w.heap.size + 1 ≤ b ∧ b < w3.heap.size) [.bool true, .string (bs []), .slice a3 2 k3, .int .i64 0] [fm [117, 110, 105, 116] [lf name]]) := kNd.lay_mono HL5.out fun b hb hlt => ⟨hb, by rw [heap_alloc_old w6 _ (by omega)]; exact hb6.block b hlt⟩
    have HLN : Hid (kNd.lay (w6.alloc (.cells #[.bool true, .string (bs []), .slice a6 (im.length + 1) k6, .int .i64 0] 66)) (fun b => w3.heap.size + 1 ≤ b ∧ b < w6.heap.size) [.bool true, .string (bs []), .slice a6 (im.length + 1) k6, .int .i64 0] [fm [105, 109, 112, 111, 114, 116] im]) :=
      ⟨_, _, rfl, nd_C hc6 (kNd.row_mono (by decide) hr6 fun i hi hlt => ⟨⟨by rcases hi with h | h <;> omega, hlt⟩, heap_alloc_old w6 _ hlt⟩), rfl⟩
    have hsrc := src_blk w6 23 66 Tryz.underlying23 w6.heap.size 4 [.bool true, .string (bs []), .slice a6 (im.length + 1) k6, .int .i64 0] rfl rfl (by simp [Value.oneCell'])
    clear hfo hr6 R5 hb6 hb5
    go_wp2_with (first | (at_builtin; refine wpList_append_src nd_info rfl Tryz.underlying23 (by decide) _ rfl _ _ rfl w3.heap.size (Value.slice (some ⟨w3.heap.size, 0, none⟩) 1 1) 1 [.bool true, .string (bs []), .slice a3 2 k3, .int .i64 0] rfl hown7 _ 1 [.bool true, .string (bs []), .slice a6 (im.length + 1) k6, .int .i64 0] rfl hsrc (by omega) (by simp; omega) ?_; intro y8 k8 w8 hown8 hgrow8 hat8; refine Hid.out ?_) | go_in)
    refine Lib.hid ?_
    have R8 := R7.grow hgrow8 (fun k e => by simp [Value.ownBlock] at e; omega)
    have sz8 : w6.heap.size + 1 ≤ w8.heap.size := by have := hgrow8.size; simpa using this
    have hl8 : kNd.lay w8 (fun b => w.heap.size + 1 ≤ b ∧ b < w6.heap.size ∧ b ≠ w3.heap.size) ([.bool true, .string (bs []), .slice a3 2 k3, .int .i64 0] ++ [.bool true, .string (bs []), .slice a6 (im.length + 1) k6, .int .i64 0]) [fm [117, 110, 105, 116] [lf name], fm [105, 109, 112, 111, 114, 116] im] := lead_lay (g := w3.heap.size) HL7.out HLN.out hgrow8 (fun b hb => ⟨⟨by omega, hb.2, by omega⟩, by simp; omega, by omega⟩) (fun b hb => ⟨⟨hb.1, by omega, by omega⟩, by simp; omega, by omega⟩)
    obtain ⟨g8, hg8, hw8⟩ : ∃ g8, (Value.slice y8 2 k8).ownBlock = some g8 ∧ (g8 = w3.heap.size ∨ g8 = w6.heap.size + 1) := by
      rcases hat8 with h | h
      · exact ⟨w3.heap.size, h, .inl rfl⟩
      · exact ⟨w6.heap.size + 1, by simpa using h, .inr rfl⟩
    have hlg8 : g8 < w8.heap.size := (hown8.lt g8 hg8).2
    have HG8 : Hid _ := hg8
    have HS8 : Hid (∀ b, w.heap.size + 1 ≤ b ∧ b < w6.heap.size ∧ b ≠ w3.heap.size → b ≠ g8) := fun b hb => by rcases hw8 with h | h <;> omega
    have hge8 : w.heap.size + 1 ≤ g8 := by rcases hw8 with h | h <;> omega
    have hown8' : w8.ownsRow w3.heap.size 66 4 (.slice y8 2 k8) 2 ([.bool true, .string (bs []), .slice a3 2 k3, .int .i64 0] ++ [.bool true, .string (bs []), .slice a6 (im.length + 1) k6, .int .i64 0]) := hown8
    generalize ([.bool true, .string (bs []), .slice a3 2 k3, .int .i64 0] ++ [.bool true, .string (bs []), .slice a6 (im.length + 1) k6, .int .i64 0] : List Value) = X at hl8 hown8'
    have HL8 : Hid _ := hl8
    have HO8 : Hid _ := hown8'
    have t2 := (R8.cell 2).trans q2
    have sz8' : w.heap.size < w8.heap.size := by omega
    clear hown8 hown8' hl8 hown7 hat8 hsrc hgrow8 R7 hg8 hw8
    cases hs : eachO shF funcs with
    | none =>
      rw [hs] at HE HFS
      clear hs hzl
      go_wp2_with (first | (go_at_call 79; refine (HE.out _ R8).mono ?_; rintro e w9 hG9; obtain rfl := hG9.bad rfl))
      exact ⟨rfl, .ofBad (by rw [HFS.out]; rfl) (bl_then R8.bl hG9.below)⟩
    | some z =>
      have hz := hzl z hs
      rw [hs] at HE HFS
      clear hs hzl
      go_wp2_with (first | (go_at_call 79; refine (HE.out _ R8).mono ?_; rintro e w9 hG9; obtain ⟨v9, rfl, a9, k9, rfl, hr9, hc9⟩ := hG9.ok _ rfl; refine Hid.out ?_))
      refine Lib.hid ?_
      have hb9 := hG9.below
      have R9 := R8.on hb9
      have sz9 := hb9.size
      obtain ⟨csz, hlz, hsrc⟩ := kNd.src (c := k9) (tx := 23) Tryz.underlying23 (kNd.row_old (by decide) hr9)
      have HLZ : Hid _ := hlz
      have HL9 : Hid (kNd.lay w9 (fun b => w.heap.size + 1 ≤ b ∧ b < w6.heap.size ∧ b ≠ w3.heap.size) X [fm [117, 110, 105, 116] [lf name], fm [105, 109, 112, 111, 114, 116] im]) := kNd.lay_mono HL8.out fun b hb hlt => ⟨hb, hb9.block b hlt⟩
      have hown9 := own_on HO8.out hb9
      clear hlz hG9 t2 hr9
      go_wp2_with (first | (at_builtin; refine wpList_append_src nd_info rfl Tryz.underlying23 (by decide) _ rfl _ _ rfl w3.heap.size (Value.slice y8 2 k8) 2 X rfl hown9 _ z.length csz rfl hsrc (by omega) (by omega) ?_; intro y10 k10 w10 hown10 hgrow10 hat10; refine Hid.out ?_) | go_in)
      refine Lib.hid ?_
      rw [HG8.out] at hgrow10
      have R10 := R9.grow hgrow10 (fun k e => by injection e with e; omega)
      obtain ⟨hrow10, hc10⟩ := lead_rows (g := g8) (l := [fm [117, 110, 105, 116] [lf name], fm [105, 109, 112, 111, 114, 116] im]) (n := 2 + z.length) rfl HL9.out HLZ.out hgrow10 (fun b hb => ⟨hb.2, by have := hb.1; omega⟩) (fun b hb => ⟨by omega, HS8.out b hb⟩) hown10
      have HB10 : Hid (Below w.heap.size w w10) := R10.bl
      have HV10 : Hid (kNd.rd w10 (fun b => w.heap.size ≤ b) (.slice y10 (2 + z.length) k10) ([fm [117, 110, 105, 116] [lf name], fm [105, 109, 112, 111, 114, 116] im] ++ z)) := ⟨y10, k10, by simp; omega, kNd.row_mono (by decide) hrow10 fun b hb _ => ⟨by rcases hb with (hb | hb) | hb; (have := hb.1; omega); (have := hb.1; omega); omega, rfl⟩, by simp; omega⟩
      clear hrow10 hown10 hgrow10 hat10 hsrc hown9 R10 R9
      go_wp2_with fail
      go_ret
      exact .ofOk (by rw [HFS.out]; rfl) HB10.out HV10.out
theorem unit_any {B : Nat} {S : Nat → Prop} (cs : Array Value) (name : List UInt8) (imports : List (List UInt8)) (funcs : List Fu) (a1 : Option Addr) (c1 : Nat) (a2 : Option Addr) (c2 : Nat) (w : World) (q0 : cs[0]? = some (.string (bs name))) (q1 : cs[1]? = some (.slice a1 imports.length c1)) (q2 : cs[2]? = some (.slice a2 funcs.length c2)) (hO : UnOk B S w a1 imports a2 funcs) : Calls Tryz.prog 40 #[.agg cs] w (Shows kNd.rd w (shU ⟨name, imports, funcs⟩)) := by
  by_cases h : imports.length ≤ 7 ∧ funcs.length ≤ 16
  · rcases hn : isName name with _ | _
    · exact unit_name cs name imports funcs a1 c1 a2 c2 w q0 q1 q2 h hn
    · by_cases hi : imports = []
      · exact unit_bare cs name imports funcs a1 c1 a2 c2 w q0 q1 q2 h hO hn hi
      · exact unit_imps cs name imports funcs a1 c1 a2 c2 w q0 q1 q2 h hO hn hi
  · exact unit_many cs name imports funcs a1 c1 a2 c2 w q0 q1 q2 h
end Go.Proofs.YtbpdhegfdmppgaaGreatDoor.Sh
