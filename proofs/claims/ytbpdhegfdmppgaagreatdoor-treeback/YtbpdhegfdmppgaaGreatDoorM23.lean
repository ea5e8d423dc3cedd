/- Texts of this proof, put together: SNum, SEx1, SEx2, SEx4. -/
import Derived.Test.YtbpdhegfdmppgaaGreatDoorM20
import Derived.Test.YtbpdhegfdmppgaaGreatDoorM22

/- CONTRACTS of numberNode, isFull, word.Sign; each at names. -/
namespace Go.Proofs.YtbpdhegfdmppgaaGreatDoor.Sh
open Go.ChangeShapes Go.WideShapes Go.ChangeAt Go.RowKit

theorem sign_bs (o : Int) (w : World) : Calls Tryz.prog 23 #[.int .i64 o] w fun e w' => e = .returned (.tuple #[.string (bs (signT o)), .bool (!(signT o).isEmpty)]) ∧ Below w.heap.size w w' := by
  have h := W.sign_any o w
  have e1 : W.sgn o = bs (signT o) := by
    unfold W.sgn signT
    repeat (first | rfl | (split <;> first | rfl | skip))
  have e2 : W.opb o = !(signT o).isEmpty := by
    unfold W.opb
    by_cases h : 1 ≤ o ∧ o ≤ 10
    · have : o = 1 ∨ o = 2 ∨ o = 3 ∨ o = 4 ∨ o = 5 ∨ o = 6 ∨ o = 7 ∨ o = 8 ∨ o = 9 ∨ o = 10 := by omega
      rcases this with rfl | rfl | rfl | rfl | rfl | rfl | rfl | rfl | rfl | rfl <;> decide
    · rw [decide_eq_false h]
      unfold signT
      rw [if_neg (by omega), if_neg (by omega), if_neg (by omega), if_neg (by omega), if_neg (by omega), if_neg (by omega), if_neg (by omega), if_neg (by omega), if_neg (by omega), if_neg (by omega)]
      rfl
  rw [e1, e2] at h
  exact h
set_option maxRecDepth 100000 in
set_option maxHeartbeats 1000000 in
theorem number_any (n lo hi : Int) (h0 : 0 ≤ lo) (h1 : hi < 100) (w : World) : Calls Tryz.prog 108 #[.int .i64 n, .int .i64 lo, .int .i64 hi] w (Shows NdV w (shNum n lo hi)) := by
  by_cases hb : lo ≤ n ∧ n ≤ hi
  · have HF : Hid (shNum n lo hi = some (lf (Lib.decDigits n.toNat))) := by show _ = _; rw [shNum, if_pos hb]
    obtain ⟨hb1, hb2⟩ := hb
    have hit := itoa_any n.toNat (by omega)
    rw [Int.toNat_of_nonneg (by omega)] at hit
    go_enter Tryz.func108, Tryz.ntmps108
    go_wp2_with (first | (go_at_call 75; refine (must_yes _).mono ?_; rintro e w2 ⟨rfl, rfl⟩) | (go_at_call 119; refine (hit _).mono ?_; rintro e w2 ⟨rfl, rfl⟩) | (go_at_call 104; refine (leaf_any _ _).mono ?_; rintro e w3 ⟨rfl, hb3⟩; refine Hid.out ?_))
    refine Lib.hid ?_
    have hres : w3.heap[w.heap.size]? = some nd0 := by rw [hb3.block _ (by simp)]; exact heap_alloc_new w _
    have hz : w.heap.size < w3.heap.size := lt_of_some hres
    have HB : Hid (Below w.heap.size w w3) := bl_then (bl_alloc (Below.refl _ _) _) hb3
    obtain ⟨c0, c1, c2, c3, f0, f1, f2, f3⟩ := nd_free hres
    clear hb3
    go_wp2_with fail
    exact bodyPost_ret_by (results_row Tryz.results108 rfl (load_nd (set4c hres) rfl)) rfl (.ofOk HF.out (bl_set4 HB.out _ _ _ _ _ (Nat.le_refl _)) (leaf_V _ _ _))
  · have HF : Hid (shNum n lo hi = none) := by show _ = _; rw [shNum, if_neg hb]
    have hb' : ¬ lo ≤ n ∨ (lo ≤ n ∧ ¬ n ≤ hi) := by omega
    clear hb
    rcases hb' with hb | ⟨hb1, hb2⟩
    all_goals
      go_enter Tryz.func108, Tryz.ntmps108
      go_wp2_with (first | (go_at_call 75; refine (must_no _).mono ?_; rintro e w2 ⟨rfl, rfl⟩))
      exact ⟨rfl, .ofBad HF.out (bl_alloc (Below.refl _ _) _)⟩
set_option maxRecDepth 100000 in
set_option maxHeartbeats 1000000 in
theorem full_any {B : Nat} (s : List UInt8) (w : World) (hs : s.length ≤ 1000000000) (hg : Glob B w) : Calls Tryz.prog 113 #[.string (bs s)] w fun e w' => e = .returned (.bool (isFullB s)) ∧ Below w.heap.size w w' := by
  have hc := cut_any 46 s w hs hg
  have HF : Hid (isFullB s = (isName (cutB 46 s).1 && (!(s.contains 46) || isName (cutB 46 s).2))) := rfl
  have hx := name_bs (cutB 46 s).1
  have hy := name_bs (cutB 46 s).2
  generalize (cutB 46 s).1 = x at hc HF hx
  generalize (cutB 46 s).2 = y at hc HF hy
  generalize s.contains 46 = z at hc HF
  rcases nx : isName x with _ | _ <;> rw [nx] at hx HF
  · clear hy
    go_enter Tryz.func113, Tryz.ntmps113
    go_wp2_with (first | (go_at_call 122; refine hc.mono ?_; rintro e w1 ⟨rfl, n, hq1⟩) | (go_at_call 22; refine (hx _).mono ?_; rintro e w2 ⟨rfl, hq⟩; have hq' := hq.symm; subst hq'))
    go_ret
    exact ⟨ret_bool (by rw [HF.out]; rfl), by first | exact drewN_below _ _ | (rw [hq1]; exact drewN_below _ _)⟩
  · cases z
    · go_enter Tryz.func113, Tryz.ntmps113
      go_wp2_with (first | (go_at_call 122; refine hc.mono ?_; rintro e w1 ⟨rfl, n, hq1⟩) | (go_at_call 22; refine (hx _).mono ?_; rintro e w2 ⟨rfl, hq⟩; have hq' := hq.symm; subst hq'))
      go_ret
      exact ⟨ret_bool (by rw [HF.out]; rfl), by first | exact drewN_below _ _ | (rw [hq1]; exact drewN_below _ _)⟩
    · go_enter Tryz.func113, Tryz.ntmps113
      go_wp2_with (first | (go_at_call 122; refine hc.mono ?_; rintro e w1 ⟨rfl, n, hq1⟩) | (go_at_call_of 22 (Value.string (bs x)); refine (hx _).mono ?_; rintro e w2 ⟨rfl, hq⟩; have hq' := hq.symm; subst hq') | (go_at_call_of 22 (Value.string (bs y)); refine (hy _).mono ?_; rintro e w2 ⟨rfl, hq⟩; have hq' := hq.symm; subst hq'))
      go_ret
      exact ⟨ret_bool (by rw [HF.out]; simp), by first | exact drewN_below _ _ | (rw [hq1]; exact drewN_below _ _)⟩
end Go.Proofs.YtbpdhegfdmppgaaGreatDoor.Sh

/- CONTRACT of exprNode at numbers, words, and kinds that are none. -/
namespace Go.Proofs.YtbpdhegfdmppgaaGreatDoor.Sh
open Go.ChangeShapes Go.WideShapes Go.ChangeAt Go.RowKit

abbrev exV (kind : Int) (n : Nat) (op : Int) (name : List UInt8) (a : Option Addr) (len c : Nat) : Value := .agg #[.int .i64 kind, .int .u32 n, .int .i64 op, .string (bs name), .slice a len c]
abbrev exO (kind : Int) (n : Nat) (op : Int) (name : List UInt8) (a : Option Addr) (len c : Nat) : Obj := .cells #[.int .i64 kind, .int .u32 n, .int .i64 op, .string (bs name), .slice a len c] 45
theorem conv_u64 (z : Int) (h0 : 0 ≤ z) (h1 : z ≤ 4294967295) (w : World) : (convert 42 134 (.int .u32 z)).run Tryz.prog w = .ok (.int .u64 z) w := by
  have hs : (Tryz.prog.underlying 42).isSome = true := by rw [Tryz.underlying42]; rfl
  have hk : Tryz.prog.intKind 134 = .u64 := by kernel_rfl
  have hd : Tryz.prog.underlying 134 = some (.int (Tryz.prog.intKind 134)) := by rw [hk]; exact Tryz.underlying134
  have hw : IntKind.u64.wrap z = z := by rw [IntKind.wrap_u64]; omega
  rw [run_convert_int w 42 134 .u32 z hs hd, hk, hw]
theorem bl_two (w : World) (o1 o2 : Obj) : Below w.heap.size w ((w.alloc o1).alloc o2) := bl_alloc (bl_alloc (Below.refl _ _) _) _
theorem at_two (w : World) (o1 o2 : Obj) : ((w.alloc o1).alloc o2).heap[w.heap.size]? = some o1 ∧ ((w.alloc o1).alloc o2).heap[w.heap.size + 1]? = some o2 := by
  refine ⟨by rw [heap_alloc_old _ _ (by simp)]; exact heap_alloc_new w _, ?_⟩
  have := heap_alloc_new (w.alloc o1) o2
  simpa using this
/-- Behind a call, where the result's block lies ready. -/
theorem res_ready {w w3 : World} {o1 : Obj} (hb : Below ((w.alloc o1).alloc nd0).heap.size ((w.alloc o1).alloc nd0) w3) : w3.heap[w.heap.size + 1]? = some nd0 ∧ w3.heap[w.heap.size]? = some o1 ∧ w.heap.size + 1 < w3.heap.size ∧ Below w.heap.size w w3 := by
  have h1 : w3.heap[w.heap.size + 1]? = some nd0 := by rw [hb.block _ (by simp)]; exact (at_two w o1 nd0).2
  exact ⟨h1, by rw [hb.block _ (by simp; omega)]; exact (at_two w o1 nd0).1, lt_of_some h1, bl_then (bl_two w _ _) hb⟩
set_option maxRecDepth 100000 in
set_option maxHeartbeats 2000000 in
theorem expr_num {B : Nat} (n : Nat) (op : Int) (name : List UInt8) (l : List Ex) (a : Option Addr) (c : Nat) (w : World) (hg : Glob B w) (hn : n ≤ 4294967295) : Calls Tryz.prog 90 #[exV 1 n op name a l.length c] w (Shows NdV w (shE (.mk 1 n op name l))) := by
  by_cases hc0 : op = 0
  · by_cases hc1 : name = []
    · by_cases hc2 : l = []
      · have HF : Hid (shE (.mk 1 n op name l) = some (lf (Lib.decDigits n))) := by show _ = _; rw [shE, if_pos rfl, if_pos ⟨hc0, hc1, hc2⟩]
        have g1 : (bs name).toList.isEmpty = true := by rw [bs_tl, hc1]; rfl
        subst hc0 hc2
        clear hc1
        have hfm := fmtU_any n hn ((w.alloc (exO 1 n 0 name a 0 c)).alloc nd0) ((hg.alloc _).alloc _)
        generalize Lib.decDigits n = dd at hfm HF
        obtain ⟨z, hz⟩ : ∃ z : Int, z = (n : Int) := ⟨_, rfl⟩
        have hz0 : 0 ≤ z := by omega
        have hz1 : z ≤ 4294967295 := by omega
        simp only [exV, exO, ← hz] at hfm ⊢
        have hcv := conv_u64 z hz0 hz1
        clear hz hn hz0 hz1
        go_enter Tryz.func90, Tryz.ntmps90
        go_wp2_with (first | (go_at_call 75; refine (must_yes _).mono ?_; rintro e w2 ⟨rfl, rfl⟩) | (go_at_call 111; refine hfm.mono ?_; rintro e w2 ⟨rfl, hb2⟩; refine Hid.out ?_))
        refine Lib.hid ?_
        clear hfm hcv
        obtain ⟨hres2, hbox2, hz2, hbw2⟩ := res_ready hb2
        clear hbox2
        go_wp2_with (first | (go_at_call 104; refine (leaf_any _ _).mono ?_; rintro e w3 ⟨rfl, hb3⟩; refine Hid.out ?_))
        refine Lib.hid ?_
        obtain ⟨hres, _, hz, hbw⟩ := res_ready (bl_then hb2 hb3)
        have HB : Hid (Below w.heap.size w w3) := hbw
        obtain ⟨c0, c1, c2, c3, f0, f1, f2, f3⟩ := nd_free hres
        clear hb3 hb2 hbw
        go_wp2_with fail
        exact bodyPost_ret_by (results_row Tryz.results90 rfl (load_nd (set4c hres) rfl)) rfl (.ofOk HF.out (bl_set4 HB.out _ _ _ _ _ (by omega)) (leaf_V _ _ _))
      · have HF : Hid (shE (.mk 1 n op name l) = none) := by show _ = _; rw [shE, if_pos rfl, if_neg fun h => hc2 h.2.2]
        have g2 : ((l.length : Int) == 0) = false := by simpa using hc2
        have g1 : (bs name).toList.isEmpty = true := by rw [bs_tl, hc1]; rfl
        subst hc0
        clear hc1
        go_enter Tryz.func90, Tryz.ntmps90
        go_wp2_with (first | (go_at_call 75; refine (must_no _).mono ?_; rintro e w2 ⟨rfl, rfl⟩))
        exact ⟨rfl, .ofBad HF.out (bl_two _ _ _)⟩
    · have HF : Hid (shE (.mk 1 n op name l) = none) := by show _ = _; rw [shE, if_pos rfl, if_neg fun h => hc1 h.2.1]
      have g1 : (bs name).toList.isEmpty = false := by rw [bs_tl]; simpa using hc1
      subst hc0
      go_enter Tryz.func90, Tryz.ntmps90
      go_wp2_with (first | (go_at_call 75; refine (must_no _).mono ?_; rintro e w2 ⟨rfl, rfl⟩))
      exact ⟨rfl, .ofBad HF.out (bl_two _ _ _)⟩
  · have HF : Hid (shE (.mk 1 n op name l) = none) := by show _ = _; rw [shE, if_pos rfl, if_neg fun h => hc0 h.1]
    have g1 : (op == 0) = false := by simpa using hc0
    go_enter Tryz.func90, Tryz.ntmps90
    go_wp2_with (first | (go_at_call 75; refine (must_no _).mono ?_; rintro e w2 ⟨rfl, rfl⟩))
    exact ⟨rfl, .ofBad HF.out (bl_two _ _ _)⟩
end Go.Proofs.YtbpdhegfdmppgaaGreatDoor.Sh

/- CONTRACT of exprNode at words, ops, choices, and kinds that are none. -/
namespace Go.Proofs.YtbpdhegfdmppgaaGreatDoor.Sh
open Go.ChangeShapes Go.WideShapes Go.ChangeAt Go.RowKit

/-- The contract, for expressions of at most that much. -/
def ExprN (m : Nat) : Prop := ∀ (x : Ex) (B : Nat) (S : Nat → Prop) (w : World) (v : Value), exW x ≤ m → exW x ≤ 1000000 → exOk x → Glob B w → ExV w S v x → Calls Tryz.prog 90 #[v] w (Shows NdV w (shE x))
theorem ExprN.each {m : Nat} (h : ExprN m) {B : Nat} {S : Nat → Prop} {l : List Ex} {a : Option Addr} {c : Nat} {w : World} (hr : exR w S a l) (hg : Glob B w) (hm : exWs l ≤ m) (hb : exWs l ≤ 1000000) (hok : exOks l) :
    Calls Tryz.prog 112 #[.slice a l.length c, .func (.func 90) #[] #[]] w (Shows kNd.rd w (shEs l)) := by
  rw [shEs_each]
  refine eachE_any w a l c ((exR_row _ _ _ _).1 hr) (by have := exWs_len l; omega) hg fun x hx S' w1 v hg1 hv => ?_
  have := exW_mem l x hx
  exact h x B S' w1 v (by omega) (by omega) (exOk_mem l x hx hok) hg1 hv
set_option maxRecDepth 100000 in
set_option maxHeartbeats 2000000 in
theorem expr_none (kind : Int) (n : Nat) (op : Int) (name : List UInt8) (l : List Ex) (a : Option Addr) (c : Nat) (w : World) (h1 : ¬ kind = 1) (h2 : ¬ kind = 2) (h3 : ¬ kind = 3) (h4 : ¬ kind = 4) (h5 : ¬ kind = 5) (h6 : ¬ kind = 6) : Calls Tryz.prog 90 #[exV kind n op name a l.length c] w (Shows NdV w (shE (.mk kind n op name l))) := by
  have HF : Hid (shE (.mk kind n op name l) = none) := by show _ = _; rw [shE, if_neg h1, if_neg h2, if_neg h3, if_neg h4, if_neg h5, if_neg h6]
  have g1 : (kind == 1) = false := by simpa using h1
  have g2 : (kind == 2) = false := by simpa using h2
  have g3 : (kind == 3) = false := by simpa using h3
  have g4 : (kind == 4) = false := by simpa using h4
  have g5 : (kind == 5) = false := by simpa using h5
  have g6 : (kind == 6) = false := by simpa using h6
  clear h1 h2 h3 h4 h5 h6
  go_enter Tryz.func90, Tryz.ntmps90
  go_wp2_with (first | (go_at_call 75; refine (must_no _).mono ?_; rintro e w2 ⟨rfl, rfl⟩))
  exact ⟨rfl, .ofBad HF.out (bl_two _ _ _)⟩
set_option maxRecDepth 100000 in
set_option maxHeartbeats 2000000 in
theorem expr_var (n : Nat) (op : Int) (name : List UInt8) (l : List Ex) (a : Option Addr) (c : Nat) (w : World) : Calls Tryz.prog 90 #[exV 2 n op name a l.length c] w (Shows NdV w (shE (.mk 2 n op name l))) := by
  by_cases hc0 : n = 0
  · by_cases hc1 : op = 0
    · by_cases hc2 : l = []
      · have HF : Hid (shE (.mk 2 n op name l) = shName name) := by show _ = _; rw [shE, if_neg (by omega), if_pos rfl, if_pos ⟨hc0, hc1, hc2⟩]
        subst hc0 hc1 hc2
        have hnm := nameNode_any name
        cases hs : shName name with
        | none =>
          rw [hs] at hnm HF
          clear hs
          go_enter Tryz.func90, Tryz.ntmps90
          go_wp2_with (first | (go_at_call 75; refine (must_yes _).mono ?_; rintro e w2 ⟨rfl, rfl⟩) | (go_at_call 77; refine (hnm _).mono ?_; rintro e w2 hG; obtain rfl := hG.bad rfl))
          exact ⟨rfl, .ofBad HF.out (bl_then (bl_two _ _ _) hG.below)⟩
        | some z =>
          rw [hs] at hnm HF
          clear hs
          obtain ⟨il, wd, ks, p⟩ := z
          go_enter Tryz.func90, Tryz.ntmps90
          go_wp2_with (first | (go_at_call 75; refine (must_yes _).mono ?_; rintro e w2 ⟨rfl, rfl⟩) | (go_at_call 77; refine (hnm _).mono ?_; rintro e w3 hG; obtain ⟨v2, rfl, a2, c2', rfl, hc2, hr2⟩ := hG.ok _ rfl; refine Hid.out ?_))
          refine Lib.hid ?_
          obtain ⟨hres, _, hz, hbw⟩ := res_ready hG.below
          have HB : Hid (Below w.heap.size w w3) := hbw
          have HR : Hid (kNd.row w3 (fun b => ((w.alloc (exO 2 0 0 name a 0 c)).alloc nd0).heap.size ≤ b) a2 ks) := hr2
          obtain ⟨c0, c1, c2, c3, f0, f1, f2, f3⟩ := nd_free hres
          clear hG hbw hr2 hnm
          go_wp2_with fail
          exact bodyPost_ret_by (results_row Tryz.results90 rfl (load_nd (set4c hres) rfl)) rfl (.ofOk HF.out (bl_set4 HB.out _ _ _ _ _ (by omega)) ⟨a2, c2', rfl, hc2, kNd.row_mono (by decide) HR.out fun i hi _ => ⟨by have : w.heap.size + 2 ≤ i := (by simpa using hi); omega, set4o (by have : w.heap.size + 2 ≤ i := (by simpa using hi); omega)⟩⟩)
      · have HF : Hid (shE (.mk 2 n op name l) = none) := by show _ = _; rw [shE, if_neg (by omega), if_pos rfl, if_neg fun h => hc2 h.2.2]
        have g2 : ((l.length : Int) == 0) = false := by simpa using hc2
        subst hc0 hc1
        go_enter Tryz.func90, Tryz.ntmps90
        go_wp2_with (first | (go_at_call 75; refine (must_no _).mono ?_; rintro e w2 ⟨rfl, rfl⟩))
        exact ⟨rfl, .ofBad HF.out (bl_two _ _ _)⟩
    · have HF : Hid (shE (.mk 2 n op name l) = none) := by show _ = _; rw [shE, if_neg (by omega), if_pos rfl, if_neg fun h => hc1 h.2.1]
      have g1 : (op == 0) = false := by simpa using hc1
      subst hc0
      go_enter Tryz.func90, Tryz.ntmps90
      go_wp2_with (first | (go_at_call 75; refine (must_no _).mono ?_; rintro e w2 ⟨rfl, rfl⟩))
      exact ⟨rfl, .ofBad HF.out (bl_two _ _ _)⟩
  · have HF : Hid (shE (.mk 2 n op name l) = none) := by show _ = _; rw [shE, if_neg (by omega), if_pos rfl, if_neg fun h => hc0 h.1]
    have g1 : (((n : Nat) : Int) == 0) = false := by simpa using hc0
    obtain ⟨z, hz⟩ : ∃ z : Int, z = (n : Int) := ⟨_, rfl⟩
    simp only [exV, ← hz] at g1 ⊢
    clear hz
    go_enter Tryz.func90, Tryz.ntmps90
    go_wp2_with (first | (go_at_call 75; refine (must_no _).mono ?_; rintro e w2 ⟨rfl, rfl⟩))
    exact ⟨rfl, .ofBad HF.out (bl_two _ _ _)⟩
set_option maxRecDepth 100000 in
set_option maxHeartbeats 2000000 in
theorem expr_sel {m B : Nat} {S : Nat → Prop} (hN : ExprN m) (n : Nat) (op : Int) (name : List UInt8) (l : List Ex) (a : Option Addr) (c : Nat) (w : World) (hg : Glob B w) (hr : exR w S a l) (hm : exWs l ≤ m) (hm' : exWs l ≤ 1000000) (hok : exOks l) : Calls Tryz.prog 90 #[exV 5 n op name a l.length c] w (Shows NdV w (shE (.mk 5 n op name l))) := by
  by_cases hc0 : n = 0
  · by_cases hc1 : op = 0
    · by_cases hc2 : name = []
      · have g2 : (bs name).toList.isEmpty = true := by rw [bs_tl, hc2]; rfl
        by_cases hc3 : l.length = 3
        · have HF : Hid (shE (.mk 5 n op name l) = (shEs l).map (fm [115, 101, 108])) := by show _ = _; rw [shE, if_neg (by omega), if_neg (by omega), if_neg (by omega), if_neg (by omega), if_pos rfl, if_pos ⟨hc0, hc1, hc2, hc3⟩]
          have g3 : ((l.length : Int) == 3) = true := by simp; omega
          have hll : l.length ≤ 1000000 := by omega
          subst hc0 hc1
          have hea := hN.each (c := c) (exR_mono (T := S) (fun i hi hlt => ⟨hi, (bl_two w (exO 5 0 0 name a l.length c) nd0).block i hlt⟩) hr) ((hg.alloc _).alloc _) hm hm' hok
          clear hc2 hc3
          cases hs : shEs l with
          | none =>
            rw [hs] at hea HF
            go_enter Tryz.func90, Tryz.ntmps90
            go_wp2_with (first | (go_at_call 75; refine (must_yes _).mono ?_; rintro e w2 ⟨rfl, rfl⟩) | (go_at_call 112; refine hea.mono ?_; rintro e w2 hG; obtain rfl := hG.bad rfl))
            exact ⟨rfl, .ofBad HF.out (bl_then (bl_two _ _ _) hG.below)⟩
          | some zs =>
            have hzl := eachO_len shE l zs (by rw [← shEs_each]; exact hs)
            rw [hs] at hea HF
            have hzl' : zs.length ≤ 1000000 := by omega
            clear hs hzl
            go_enter Tryz.func90, Tryz.ntmps90
            go_wp2_with (first | (go_at_call 75; refine (must_yes _).mono ?_; rintro e w2 ⟨rfl, rfl⟩) | (go_at_call 112; refine hea.mono ?_; rintro e w2 hG; obtain ⟨v2, rfl, a2, c2', rfl, hr2, hc2⟩ := hG.ok _ rfl; refine Hid.out ?_))
            refine Lib.hid ?_
            have hb2 := hG.below
            have hfo := form_any [115, 101, 108] a2 zs c2' w2 hr2 hzl'
            clear hG hea g2 g3
            go_wp2_with (first | (go_at_call 76; refine hfo.mono ?_; rintro e w3 ⟨⟨v3, rfl, a3, c3', rfl, hc3, hr3⟩, hb3⟩; refine Hid.out ?_))
            refine Lib.hid ?_
            obtain ⟨hres, _, hz, hbw⟩ := res_ready (bl_then hb2 hb3)
            have HB : Hid (Below w.heap.size w w3) := hbw
            have HZ : Hid (w.heap.size + 2 ≤ w2.heap.size) := by have := hb2.size; simp at this; show _ ≤ _; omega
            have HR : Hid (kNd.row w3 (fun b => (((w.alloc (exO 5 0 0 name a l.length c)).alloc nd0).heap.size ≤ b) ∨ w2.heap.size ≤ b) a3 (lf [115, 101, 108] :: zs)) := hr3
            obtain ⟨c0, c1, c2, c3, f0, f1, f2, f3⟩ := nd_free hres
            clear hb2 hb3 hbw hr2 hr3 hfo
            go_wp2_with fail
            exact bodyPost_ret_by (results_row Tryz.results90 rfl (load_nd (set4c hres) rfl)) rfl (.ofOk (x := fm [115, 101, 108] zs) (by rw [HF.out]; rfl) (bl_set4 HB.out _ _ _ _ _ (by omega)) ⟨a3, c3', rfl, hc3, kNd.row_mono (by decide) HR.out fun i hi _ => by
              have h2 : w.heap.size + 2 ≤ i := by
                rcases hi with h | h
                · simpa using h
                · have := HZ.out; omega
              exact ⟨by omega, set4o (by omega)⟩⟩)
        · have HF : Hid (shE (.mk 5 n op name l) = none) := by show _ = _; rw [shE, if_neg (by omega), if_neg (by omega), if_neg (by omega), if_neg (by omega), if_pos rfl, if_neg fun h => hc3 h.2.2.2]
          have g3 : ((l.length : Int) == 3) = false := by simp; omega
          subst hc0 hc1
          clear hc2 hc3
          go_enter Tryz.func90, Tryz.ntmps90
          go_wp2_with (first | (go_at_call 75; refine (must_no _).mono ?_; rintro e w2 ⟨rfl, rfl⟩))
          exact ⟨rfl, .ofBad HF.out (bl_two _ _ _)⟩
      · have HF : Hid (shE (.mk 5 n op name l) = none) := by show _ = _; rw [shE, if_neg (by omega), if_neg (by omega), if_neg (by omega), if_neg (by omega), if_pos rfl, if_neg fun h => hc2 h.2.2.1]
        have g2 : (bs name).toList.isEmpty = false := by rw [bs_tl]; simpa using hc2
        subst hc0 hc1
        go_enter Tryz.func90, Tryz.ntmps90
        go_wp2_with (first | (go_at_call 75; refine (must_no _).mono ?_; rintro e w2 ⟨rfl, rfl⟩))
        exact ⟨rfl, .ofBad HF.out (bl_two _ _ _)⟩
    · have HF : Hid (shE (.mk 5 n op name l) = none) := by show _ = _; rw [shE, if_neg (by omega), if_neg (by omega), if_neg (by omega), if_neg (by omega), if_pos rfl, if_neg fun h => hc1 h.2.1]
      have g1 : (op == 0) = false := by simpa using hc1
      subst hc0
      go_enter Tryz.func90, Tryz.ntmps90
      go_wp2_with (first | (go_at_call 75; refine (must_no _).mono ?_; rintro e w2 ⟨rfl, rfl⟩))
      exact ⟨rfl, .ofBad HF.out (bl_two _ _ _)⟩
  · have HF : Hid (shE (.mk 5 n op name l) = none) := by show _ = _; rw [shE, if_neg (by omega), if_neg (by omega), if_neg (by omega), if_neg (by omega), if_pos rfl, if_neg fun h => hc0 h.1]
    have g1 : (((n : Nat) : Int) == 0) = false := by simpa using hc0
    obtain ⟨z, hz⟩ : ∃ z : Int, z = (n : Int) := ⟨_, rfl⟩
    simp only [exV, ← hz] at g1 ⊢
    clear hz
    go_enter Tryz.func90, Tryz.ntmps90
    go_wp2_with (first | (go_at_call 75; refine (must_no _).mono ?_; rintro e w2 ⟨rfl, rfl⟩))
    exact ⟨rfl, .ofBad HF.out (bl_two _ _ _)⟩
end Go.Proofs.YtbpdhegfdmppgaaGreatDoor.Sh

/- CONTRACT of exprNode at ops. -/
namespace Go.Proofs.YtbpdhegfdmppgaaGreatDoor.Sh
open Go.ChangeShapes Go.WideShapes Go.ChangeAt Go.RowKit

set_option maxRecDepth 100000 in
set_option maxHeartbeats 2000000 in
theorem expr_bin {m B : Nat} {S : Nat → Prop} (hN : ExprN m) (n : Nat) (op : Int) (name : List UInt8) (l : List Ex) (a : Option Addr) (c : Nat) (w : World) (hg : Glob B w) (hr : exR w S a l) (hm : exWs l ≤ m) (hm' : exWs l ≤ 1000000) (hok : exOks l) : Calls Tryz.prog 90 #[exV 4 n op name a l.length c] w (Shows NdV w (shE (.mk 4 n op name l))) := by
  have hsg := sign_bs op
  have HSH : Hid (shE (.mk 4 n op name l) = if signT op ≠ [] ∧ n = 0 ∧ name = [] ∧ l.length = 2 then (shEs l).map (fm (signT op)) else none) := by show _ = _; rw [shE, if_neg (by omega), if_neg (by omega), if_neg (by omega), if_pos rfl]
  generalize signT op = sg at hsg HSH
  by_cases hc0 : sg = []
  · have HF : Hid (shE (.mk 4 n op name l) = none) := by show _ = _; rw [HSH.out, if_neg fun h => h.1 hc0]
    have he : (!sg.isEmpty) = false := by rw [hc0]; rfl
    rw [he] at hsg
    clear hc0 he
    go_enter Tryz.func90, Tryz.ntmps90
    go_wp2_with (first | (go_at_call 23; refine (hsg _).mono ?_; rintro e w1 ⟨rfl, hb1⟩) | (go_at_call 75; refine (must_no _).mono ?_; rintro e w2 ⟨rfl, rfl⟩))
    exact ⟨rfl, .ofBad HF.out (bl_then (bl_two _ _ _) hb1)⟩
  · have he : (!sg.isEmpty) = true := by simpa using hc0
    rw [he] at hsg
    clear he
    have CB : ∀ (w1 : World), Below ((w.alloc (exO 4 n op name a l.length c)).alloc nd0).heap.size ((w.alloc (exO 4 n op name a l.length c)).alloc nd0) w1 → (∀ i : Nat, w1.cell? ⟨w.heap.size, i, none⟩ = #[Value.int .i64 4, .int .u32 n, .int .i64 op, .string (bs name), .slice a l.length c][i]?) ∧ w.heap.size < w1.heap.size := fun w1 hb => by
      obtain ⟨_, hbox, hz, _⟩ := res_ready hb
      exact ⟨fun i => by simp [World.cell?, hbox], by omega⟩
    by_cases hc1 : n = 0
    · by_cases hc2 : name = []
      · have g2 : (bs name).toList.isEmpty = true := by rw [bs_tl, hc2]; rfl
        by_cases hc3 : l.length = 2
        · have HF : Hid (shE (.mk 4 n op name l) = (shEs l).map (fm sg)) := by show _ = _; rw [HSH.out, if_pos ⟨hc0, hc1, hc2, hc3⟩]
          have g3 : ((l.length : Int) == 2) = true := by simp; omega
          have hll : l.length ≤ 1000000 := by omega
          subst hc1
          clear hc2 hc3 HSH
          have HEA : Hid (∀ w1, Below ((w.alloc (exO 4 0 op name a l.length c)).alloc nd0).heap.size ((w.alloc (exO 4 0 op name a l.length c)).alloc nd0) w1 → Calls Tryz.prog 112 #[.slice a l.length c, .func (.func 90) #[] #[]] w1 (Shows kNd.rd w1 (shEs l))) := fun w1 hb => hN.each (exR_mono (T := S) (fun i hi hlt => ⟨hi, by rw [hb.block i (by simp; omega)]; exact (bl_two w _ _).block i hlt⟩) hr) (((hg.alloc _).alloc _).below hb) hm hm' hok
          cases hs : shEs l with
          | none =>
            rw [hs] at HEA HF
            clear hs
            go_enter Tryz.func90, Tryz.ntmps90
            go_wp2_with (first | (go_at_call 23; refine (hsg _).mono ?_; rintro e w1 ⟨rfl, hb1⟩; obtain ⟨cb, hz1⟩ := CB w1 hb1; have hea := HEA.out w1 hb1) | (go_at_call 75; refine (must_yes _).mono ?_; rintro e w9 ⟨rfl, hq⟩; have hq' := hq.symm; subst hq') | (go_at_call 112; refine hea.mono ?_; rintro e w2 hG; obtain rfl := hG.bad rfl))
            exact ⟨rfl, .ofBad HF.out (bl_then (bl_then (bl_two _ _ _) hb1) hG.below)⟩
          | some zs =>
            have hzl := eachO_len shE l zs (by rw [← shEs_each]; exact hs)
            rw [hs] at HEA HF
            have hzl' : zs.length ≤ 1000000 := by omega
            clear hs hzl
            go_enter Tryz.func90, Tryz.ntmps90
            go_wp2_with (first | (go_at_call 23; refine (hsg _).mono ?_; rintro e w1 ⟨rfl, hb1⟩; obtain ⟨cb, hz1⟩ := CB w1 hb1; have hea := HEA.out w1 hb1) | (go_at_call 75; refine (must_yes _).mono ?_; rintro e w9 ⟨rfl, hq⟩; have hq' := hq.symm; subst hq') | (go_at_call 112; refine hea.mono ?_; rintro e w2 hG; obtain ⟨v2, rfl, a2, c2', rfl, hr2, hc2⟩ := hG.ok _ rfl; refine Hid.out ?_))
            refine Lib.hid ?_
            have hb2 := bl_then hb1 hG.below
            have hw12 := hb1.size
            have hfo := form_any sg a2 zs c2' w2 hr2 hzl'
            clear hG hea g2 g3 cb CB
            go_wp2_with (first | (go_at_call 76; refine hfo.mono ?_; rintro e w3 ⟨⟨v3, rfl, a3, c3', rfl, hc3, hr3⟩, hb3⟩; refine Hid.out ?_))
            refine Lib.hid ?_
            obtain ⟨hres, _, hz, hbw⟩ := res_ready (bl_then hb2 hb3)
            have HB : Hid (Below w.heap.size w w3) := hbw
            have HZ : Hid (w.heap.size + 2 ≤ w2.heap.size ∧ w.heap.size + 2 ≤ w1.heap.size) := by have := hb2.size; simp at this hw12; exact ⟨by omega, by omega⟩
            have HR : Hid (kNd.row w3 (fun b => (w1.heap.size ≤ b) ∨ w2.heap.size ≤ b) a3 (lf sg :: zs)) := hr3
            obtain ⟨c0, c1, c2, c3, f0, f1, f2, f3⟩ := nd_free hres
            clear hb2 hb3 hbw hr2 hr3 hfo hb1 hw12
            go_wp2_with fail
            exact bodyPost_ret_by (results_row Tryz.results90 rfl (load_nd (set4c hres) rfl)) rfl (.ofOk (x := fm sg zs) (by rw [HF.out]; rfl) (bl_set4 HB.out _ _ _ _ _ (by omega)) ⟨a3, c3', rfl, hc3, kNd.row_mono (by decide) HR.out fun i hi _ => by
              have h2 : w.heap.size + 2 ≤ i := by
                have := HZ.out
                rcases hi with h | h <;> omega
              exact ⟨by omega, set4o (by omega)⟩⟩)
        · have HF : Hid (shE (.mk 4 n op name l) = none) := by show _ = _; rw [HSH.out, if_neg fun h => hc3 h.2.2.2]
          have g3 : ((l.length : Int) == 2) = false := by simp; omega
          subst hc1
          clear hc2 hc3 HSH
          go_enter Tryz.func90, Tryz.ntmps90
          go_wp2_with (first | (go_at_call 23; refine (hsg _).mono ?_; rintro e w1 ⟨rfl, hb1⟩; obtain ⟨cb, hz1⟩ := CB w1 hb1) | (go_at_call 75; refine (must_no _).mono ?_; rintro e w2 ⟨rfl, rfl⟩))
          exact ⟨rfl, .ofBad HF.out (bl_then (bl_two _ _ _) hb1)⟩
      · have HF : Hid (shE (.mk 4 n op name l) = none) := by show _ = _; rw [HSH.out, if_neg fun h => hc2 h.2.2.1]
        have g2 : (bs name).toList.isEmpty = false := by rw [bs_tl]; simpa using hc2
        subst hc1
        clear hc2 HSH
        go_enter Tryz.func90, Tryz.ntmps90
        go_wp2_with (first | (go_at_call 23; refine (hsg _).mono ?_; rintro e w1 ⟨rfl, hb1⟩; obtain ⟨cb, hz1⟩ := CB w1 hb1) | (go_at_call 75; refine (must_no _).mono ?_; rintro e w2 ⟨rfl, rfl⟩))
        exact ⟨rfl, .ofBad HF.out (bl_then (bl_two _ _ _) hb1)⟩
    · have HF : Hid (shE (.mk 4 n op name l) = none) := by show _ = _; rw [HSH.out, if_neg fun h => hc1 h.2.1]
      have g1 : (((n : Nat) : Int) == 0) = false := by simpa using hc1
      obtain ⟨z, hz⟩ : ∃ z : Int, z = (n : Int) := ⟨_, rfl⟩
      simp only [exV, exO, ← hz] at g1 CB ⊢
      clear hz hc1 HSH
      go_enter Tryz.func90, Tryz.ntmps90
      go_wp2_with (first | (go_at_call 23; refine (hsg _).mono ?_; rintro e w1 ⟨rfl, hb1⟩; obtain ⟨cb, hz1⟩ := CB w1 hb1) | (go_at_call 75; refine (must_no _).mono ?_; rintro e w2 ⟨rfl, rfl⟩))
      exact ⟨rfl, .ofBad HF.out (bl_then (bl_two _ _ _) hb1)⟩
end Go.Proofs.YtbpdhegfdmppgaaGreatDoor.Sh
