/- Texts of this proof, put together: TStmt, TStAll, TFu, TFuncA, TFunc, TFuncs, TUnitA, TUnitP. -/
import Derived.Test.YtbpdhegfdmppgaaGreatDoorM34
import Derived.Test.YtbpdhegfdmppgaaGreatDoorM35

/- CONTRACT of readStmt, where stmts' holds of smaller nodes. -/
namespace Go.Proofs.YtbpdhegfdmppgaaGreatDoor
open Go.ChangeShapes Go.WideShapes Go.ChangeAt Go.RowKit

set_option maxHeartbeats 3200000 in
theorem stmt_all {m : Nat} (hS : StmtsN m) : StmtN m := by
  intro B w r l p il wd ks q a c h hs
  cases ht : rdText (.mk il wd ks q) with
  | bad x y =>
    have HT : Hid (rdText (.mk il wd ks q) = .bad x y) := ht
    have HP : Hid (rdSt p (.mk il wd ks q :: l) = .bad x y) := by show _ = _; rw [rdSt.eq_def]; simp only [ht, Res.bind_bad]
    clear ht
    go_enter Tryz.func99, Tryz.ntmps99
    go_wp2_with (go_at_call 94; refine (text_bs il wd ks q _ _ _).mono ?_; rw [HT.out]; simp only [endOf]; rintro e w2 ⟨rfl, hb2⟩)
    exact ⟨rfl, .ofBad (by rw [HP.out]; rfl) ((Rg.start3 h 110 _ #[.int .i64 0, .string ⟨#[]⟩, .bool false, .int .i64 0, .int .i64 0, .int .i64 0, .int .i64 0, .int .u32 0, .int .i64 0, .string ⟨#[]⟩, .slice none 0 0, .int .i64 0, .int .u32 0, .int .i64 0, .string ⟨#[]⟩, .slice none 0 0, .slice none 0 0, .slice none 0 0] #[.int .i64 0, .string ⟨#[]⟩, .bool false, .int .i64 0, .int .i64 0, .int .i64 0, .int .i64 0, .int .u32 0, .int .i64 0, .string ⟨#[]⟩, .slice none 0 0, .int .i64 0, .int .u32 0, .int .i64 0, .string ⟨#[]⟩, .slice none 0 0, .slice none 0 0, .slice none 0 0]).kept.on hb2)⟩
  | ok s =>
    by_cases h0 : s = [108, 101, 116]
    · subst h0; exact stmt_let il wd ks q a c hS h hs ht
    by_cases h1 : s = [115, 101, 116]
    · subst h1; exact stmt_set il wd ks q a c hS h hs ht
    by_cases h2 : s = [110, 101, 119]
    · subst h2; exact stmt_new il wd ks q a c hS h hs ht
    by_cases h3 : s = [112, 117, 116]
    · subst h3; exact stmt_put il wd ks q a c hS h hs ht
    by_cases h4 : s = [102, 111, 114]
    · subst h4; exact stmt_for il wd ks q a c hS h hs ht
    by_cases h5 : s = [105, 102]
    · subst h5; exact stmt_if il wd ks q a c hS h hs ht
    have HP : Hid _ := st_none (p := p) (r := l) ht h0 h1 h2 h3 h4 h5
    have HT : Hid (rdText (.mk il wd ks q) = .ok s) := ht
    have hts : (bs s).toList = s := by rw [ByteArray.toList_eq, bs_list]
    have g0 : ¬ (bs s).toList = [108, 101, 116] := by rw [hts]; exact h0
    have k0 : ((bs s).toList == [108, 101, 116]) = false := by simpa using g0
    have g1 : ¬ (bs s).toList = [115, 101, 116] := by rw [hts]; exact h1
    have k1 : ((bs s).toList == [115, 101, 116]) = false := by simpa using g1
    have g2 : ¬ (bs s).toList = [110, 101, 119] := by rw [hts]; exact h2
    have k2 : ((bs s).toList == [110, 101, 119]) = false := by simpa using g2
    have g3 : ¬ (bs s).toList = [112, 117, 116] := by rw [hts]; exact h3
    have k3 : ((bs s).toList == [112, 117, 116]) = false := by simpa using g3
    have g4 : ¬ (bs s).toList = [102, 111, 114] := by rw [hts]; exact h4
    have k4 : ((bs s).toList == [102, 111, 114]) = false := by simpa using g4
    have g5 : ¬ (bs s).toList = [105, 102] := by rw [hts]; exact h5
    have k5 : ((bs s).toList == [105, 102]) = false := by simpa using g5
    clear ht hts h0 h1 h2 h3 h4 h5
    go_enter Tryz.func99, Tryz.ntmps99
    go_wp2_with (first | (go_at_call 94; refine (text_bs il wd ks q _ _ _).mono ?_; rw [HT.out]; simp only [endOf, sval]; rintro e w2 ⟨rfl, hb2⟩; have hk2 := (Rg.start3 h 110 _ #[.int .i64 0, .string ⟨#[]⟩, .bool false, .int .i64 0, .int .i64 0, .int .i64 0, .int .i64 0, .int .u32 0, .int .i64 0, .string ⟨#[]⟩, .slice none 0 0, .int .i64 0, .int .u32 0, .int .i64 0, .string ⟨#[]⟩, .slice none 0 0, .slice none 0 0, .slice none 0 0] #[.int .i64 0, .string ⟨#[]⟩, .bool false, .int .i64 0, .int .i64 0, .int .i64 0, .int .i64 0, .int .u32 0, .int .i64 0, .string ⟨#[]⟩, .slice none 0 0, .int .i64 0, .int .u32 0, .int .i64 0, .string ⟨#[]⟩, .slice none 0 0, .slice none 0 0, .slice none 0 0]).kept.on hb2; have hn2 := below_keep (three_at w _ _ _) hb2; obtain ⟨b20, b21, b22, b23⟩ := cells4 hn2) | (go_at_call 92; refine (refuse_any _ _ _ _ _ _ _).mono ?_; rintro e w9 ⟨rfl, hb9⟩))
    exact ⟨rfl, .ofBad (by rw [HP.out]; rfl) (hk2.on hb9)⟩
end Go.Proofs.YtbpdhegfdmppgaaGreatDoor

/- CONTRACTS of readStmt and stmts, for all nodes. -/
namespace Go.Proofs.YtbpdhegfdmppgaaGreatDoor

theorem stmts_all : ∀ m, m ≤ 1000000000 → StmtsN m ∧ StmtN m := by
  intro m
  induction m using Nat.strongRecOn with
  | _ m ih =>
    intro hm
    have h := stmts_step hm fun k hk => (ih k hk (by omega)).2
    exact ⟨h, stmt_all h⟩
end Go.Proofs.YtbpdhegfdmppgaaGreatDoor

/- FUNCTIONS in memory: 9 cells each. -/
namespace Go.Proofs.YtbpdhegfdmppgaaGreatDoor
open Go.ChangeShapes Go.WideShapes Go.ChangeAt Go.RowKit

/-- The cells of a function. -/
def fuC (w : World) (S : Nat → Prop) (cs : List Value) : Fu → Prop
  | ⟨name, params, sec, body, .mk k n o m l⟩ => ∃ a1 c1 a2 c2 a3 c3, cs = [.string (bs name), .slice a1 params.length c1, .bool sec, .slice a2 body.length c2, .int .i64 k, .int .u32 n, .int .i64 o, .string (bs m), .slice a3 l.length c3] ∧
      params.length ≤ c1 ∧ body.length ≤ c2 ∧ l.length ≤ c3 ∧ kPa.row w S a1 params ∧ smR w S a2 body ∧ exR w S a3 l
def kFu : Kind Fu where
  n := 9
  C := fuC
  len := fun {w S cs x} h => by
    obtain ⟨name, params, sec, body, k, n, o, m, l⟩ := x
    obtain ⟨a1, c1, a2, c2, a3, c3, rfl, _⟩ := h
    rfl
  one := fun {w S cs x} h => by
    obtain ⟨name, params, sec, body, k, n, o, m, l⟩ := x
    obtain ⟨a1, c1, a2, c2, a3, c3, rfl, _⟩ := h
    simp [Value.oneCell']
  mono := fun {w w' S T cs x} h hg => by
    obtain ⟨name, params, sec, body, k, n, o, m, l⟩ := x
    obtain ⟨a1, c1, a2, c2, a3, c3, rfl, h1, h2, h3, r1, r2, r3⟩ := h
    exact ⟨a1, c1, a2, c2, a3, c3, rfl, h1, h2, h3, kPa.row_mono (by show 0 < 3; omega) r1 hg, smR_mono hg r2, exR_mono hg r3⟩
def FuV (w : World) (S : Nat → Prop) (v : Value) (x : Fu) : Prop := ∃ cs : List Value, v = .agg cs.toArray ∧ fuC w S cs x
theorem info_func : (Tryz.prog.info? 47).map (·.size) = some 9 := by kernel_rfl
theorem load_func {W : World} {b : Nat} {cs : Array Value} {t : TypeId} {f : Nat × Nat} (h : W.heap[b]? = some (.cells cs t f)) (hs : cs.size = 9) : (loadVar 47 ⟨b, 0, none⟩).run Tryz.prog W = .ok (.agg cs) W :=
  run_loadVar_row W b t 47 cs f _ h Tryz.underlying47 rfl (by rw [hs]; exact info_func)
theorem rdBody_nil (p : Int) : rdBody p [] = .bad 6 p := by rw [rdBody]
theorem rdBody_cons (p : Int) (n : Nd) (r : List Nd) : rdBody p (n :: r) = (rdEnter n).bind fun x => (rdNext x.2 x.1).bind fun y => (rdText y.1).bind fun s =>
    if s = [114, 101, 116] then (rdBy rdE x.2 y.2).bind fun e => (rdEnd e.2).bind fun _ => .ok ([], e.1, r)
    else (rdSt x.2 x.1).bind fun a => (rdBody p r).bind fun z => .ok (a :: z.1, z.2.1, z.2.2) := by rw [rdBody]
theorem drew_below (w : World) : Below w.heap.size w w.drew := ⟨rfl, rfl, rfl, Nat.le_refl _, fun _ _ => rfl⟩
theorem Rh.start {B : Nat} {w w1 : World} {r1 : Nat} {ks : List Nd} {q : Int} (T : TypeId) (o : Obj) (rc xc : Array Value) (hB : B ≤ w.heap.size) (hb : Below (((w.alloc o).alloc (.cells rc T)).alloc (.cells xc T)).heap.size (((w.alloc o).alloc (.cells rc T)).alloc (.cells xc T)) w1) (hr : (((w.alloc o).alloc (.cells rc T)).alloc (.cells xc T)).heap.size ≤ r1) (h : Rs B w1 r1 ks q) :
    Rh B w w1 r1 ks q T (w.heap.size + 1) rc (w.heap.size + 2) xc where
  below := Below.then (Below.then (two_below w o (.cells rc T)) (one_below _ _)) hb
  rs := h
  res := below_keep (at_old (two_at w _ _).2) hb
  x := below_keep (by have := heap_alloc_new ((w.alloc o).alloc (.cells rc T)) (.cells xc T); simpa using this) hb
  hR := by omega
  hX := by omega
  hr := by simp at hr; omega
  hB := hB
  ne := by omega
  n1 := by simp at hr; omega
  n2 := by simp at hr; omega
theorem below_past {a b c : World} {M : Nat → Prop} (h : Below a.heap.size a b) (k : Kept M b c) (hM : ∀ i, M i → a.heap.size ≤ i) : Below a.heap.size a c := none_below ((Below.kept h (fun _ => False)).past k hM)
end Go.Proofs.YtbpdhegfdmppgaaGreatDoor

/- CONTRACT of readFunc ahead of its statements: what may be wrong there. -/
namespace Go.Proofs.YtbpdhegfdmppgaaGreatDoor
open Go.ChangeShapes Go.WideShapes Go.ChangeAt Go.RowKit

set_option maxHeartbeats 1600000 in
theorem func_skip {B : Nat} {w : World} (ks : List Nd) (q : Int) (a : Option Addr) (c : Nat) (hg : Glob B w) (hw : wokL ks) (hrow : Row (fun b => b < B) w a ks) (hc : ks.length ≤ c) (x y : Int) (HR2 : Hid (rdBy (rdSkipOf [102, 110]) q ks = .bad x y)) :
    Calls Tryz.prog 63 #[.agg #[.bool true, .string ⟨#[]⟩, .slice a ks.length c, .int .i64 q]] w fun e w' => e = .panicked (flt x y) ∧ Below w.heap.size w w' := by
  have hB := hg.le
  have hb0 := Below.then (two_below w (.cells #[.bool true, .string ⟨#[]⟩, .slice a ks.length c, .int .i64 q] 66) (.cells #[.string ⟨#[]⟩, .slice none 0 0, .bool false, .slice none 0 0, .int .i64 0, .int .u32 0, .int .i64 0, .string ⟨#[]⟩, .slice none 0 0] 47)) (one_below _ (.cells #[.string ⟨#[]⟩, .slice none 0 0, .bool false, .slice none 0 0, .int .i64 0, .int .u32 0, .int .i64 0, .string ⟨#[]⟩, .slice none 0 0] 47))
  have hent := enter_ok (B := B) ks q a c (Nat.le_trans hB hb0.size) (hg.below hb0) hw (hrow.keep hb0) hc
  go_enter Tryz.func63, Tryz.ntmps63
  go_wp2_with (go_at_call 55; refine hent.mono ?_; rintro e w1 ⟨r1, rfl, hr1, hRs1, hb1⟩; have hf1 := Rh.start 47 _ #[.string ⟨#[]⟩, .slice none 0 0, .bool false, .slice none 0 0, .int .i64 0, .int .u32 0, .int .i64 0, .string ⟨#[]⟩, .slice none 0 0] #[.string ⟨#[]⟩, .slice none 0 0, .bool false, .slice none 0 0, .int .i64 0, .int .u32 0, .int .i64 0, .string ⟨#[]⟩, .slice none 0 0] hB hb1 hr1 hRs1; have c1 := hf1.cell; have z1 := hf1.free; have s1 := hf1.lt; have rs1 := hf1.rlt)
  go_wp2_with (go_at_call 57; refine (skip_tk [102, 110] hf1.rs).mono ?_; rintro e w2 hG2; obtain rfl := hG2.bad _ _ HR2.out)
  exact ⟨rfl, rfl, below_past hf1.below hG2.kept fun i e => by rw [e]; exact hf1.hr⟩
set_option maxHeartbeats 1600000 in
theorem func_name {B : Nat} {w : World} (ks : List Nd) (q : Int) (a : Option Addr) (c : Nat) (hg : Glob B w) (hw : wokL ks) (hrow : Row (fun b => b < B) w a ks) (hc : ks.length ≤ c) (x y : Int) (l2 : List Nd) (HR2 : Hid (rdBy (rdSkipOf [102, 110]) q ks = .ok ((), l2))) (HR3 : Hid (rdBy rdNameOf q l2 = .bad x y)) :
    Calls Tryz.prog 63 #[.agg #[.bool true, .string ⟨#[]⟩, .slice a ks.length c, .int .i64 q]] w fun e w' => e = .panicked (flt x y) ∧ Below w.heap.size w w' := by
  have hB := hg.le
  have hb0 := Below.then (two_below w (.cells #[.bool true, .string ⟨#[]⟩, .slice a ks.length c, .int .i64 q] 66) (.cells #[.string ⟨#[]⟩, .slice none 0 0, .bool false, .slice none 0 0, .int .i64 0, .int .u32 0, .int .i64 0, .string ⟨#[]⟩, .slice none 0 0] 47)) (one_below _ (.cells #[.string ⟨#[]⟩, .slice none 0 0, .bool false, .slice none 0 0, .int .i64 0, .int .u32 0, .int .i64 0, .string ⟨#[]⟩, .slice none 0 0] 47))
  have hent := enter_ok (B := B) ks q a c (Nat.le_trans hB hb0.size) (hg.below hb0) hw (hrow.keep hb0) hc
  go_enter Tryz.func63, Tryz.ntmps63
  go_wp2_with (go_at_call 55; refine hent.mono ?_; rintro e w1 ⟨r1, rfl, hr1, hRs1, hb1⟩; have hf1 := Rh.start 47 _ #[.string ⟨#[]⟩, .slice none 0 0, .bool false, .slice none 0 0, .int .i64 0, .int .u32 0, .int .i64 0, .string ⟨#[]⟩, .slice none 0 0] #[.string ⟨#[]⟩, .slice none 0 0, .bool false, .slice none 0 0, .int .i64 0, .int .u32 0, .int .i64 0, .string ⟨#[]⟩, .slice none 0 0] hB hb1 hr1 hRs1; have c1 := hf1.cell; have z1 := hf1.free; have s1 := hf1.lt; have rs1 := hf1.rlt)
  go_wp2_with (go_at_call 57; refine (skip_tk [102, 110] hf1.rs).mono ?_; rintro e w2 hG2; obtain ⟨hRs2, v2, rfl, rfl⟩ := hG2.ok _ _ HR2.out; have hf2 := hf1.step hG2.kept hRs2; clear c1 z1; have c2 := hf2.cell; have z2 := hf2.free; have s2 := hf2.lt; have rs2 := hf2.rlt)
  go_wp2_with (go_at_call 58; refine (name_tk hf2.rs).mono ?_; rintro e w3 hG3; obtain rfl := hG3.bad _ _ HR3.out)
  exact ⟨rfl, rfl, below_past hf2.below hG3.kept fun i e => by rw [e]; exact hf2.hr⟩
set_option maxHeartbeats 1600000 in
theorem func_noparams {B : Nat} {w : World} (ks : List Nd) (q : Int) (a : Option Addr) (c : Nat) (hg : Glob B w) (hw : wokL ks) (hrow : Row (fun b => b < B) w a ks) (hc : ks.length ≤ c) (l2 : List Nd) (HR2 : Hid (rdBy (rdSkipOf [102, 110]) q ks = .ok ((), l2))) (t3 : List UInt8) (x y : Int) (hx : x = 6) (hy : y = q) (HR3 : Hid (rdBy rdNameOf q l2 = .ok (t3, []))) :
    Calls Tryz.prog 63 #[.agg #[.bool true, .string ⟨#[]⟩, .slice a ks.length c, .int .i64 q]] w fun e w' => e = .panicked (flt x y) ∧ Below w.heap.size w w' := by
  have hB := hg.le
  have hb0 := Below.then (two_below w (.cells #[.bool true, .string ⟨#[]⟩, .slice a ks.length c, .int .i64 q] 66) (.cells #[.string ⟨#[]⟩, .slice none 0 0, .bool false, .slice none 0 0, .int .i64 0, .int .u32 0, .int .i64 0, .string ⟨#[]⟩, .slice none 0 0] 47)) (one_below _ (.cells #[.string ⟨#[]⟩, .slice none 0 0, .bool false, .slice none 0 0, .int .i64 0, .int .u32 0, .int .i64 0, .string ⟨#[]⟩, .slice none 0 0] 47))
  have hent := enter_ok (B := B) ks q a c (Nat.le_trans hB hb0.size) (hg.below hb0) hw (hrow.keep hb0) hc
  go_enter Tryz.func63, Tryz.ntmps63
  go_wp2_with (go_at_call 55; refine hent.mono ?_; rintro e w1 ⟨r1, rfl, hr1, hRs1, hb1⟩; have hf1 := Rh.start 47 _ #[.string ⟨#[]⟩, .slice none 0 0, .bool false, .slice none 0 0, .int .i64 0, .int .u32 0, .int .i64 0, .string ⟨#[]⟩, .slice none 0 0] #[.string ⟨#[]⟩, .slice none 0 0, .bool false, .slice none 0 0, .int .i64 0, .int .u32 0, .int .i64 0, .string ⟨#[]⟩, .slice none 0 0] hB hb1 hr1 hRs1; have c1 := hf1.cell; have z1 := hf1.free; have s1 := hf1.lt; have rs1 := hf1.rlt)
  go_wp2_with (go_at_call 57; refine (skip_tk [102, 110] hf1.rs).mono ?_; rintro e w2 hG2; obtain ⟨hRs2, v2, rfl, rfl⟩ := hG2.ok _ _ HR2.out; have hf2 := hf1.step hG2.kept hRs2; clear c1 z1; have c2 := hf2.cell; have z2 := hf2.free; have s2 := hf2.lt; have rs2 := hf2.rlt)
  go_wp2_with (go_at_call 58; refine (name_tk hf2.rs).mono ?_; rintro e w3 hG3; obtain ⟨hRs3, v3, rfl, rfl⟩ := hG3.ok _ _ HR3.out; have hf3 := hf2.step hG3.kept hRs3; clear c2 z2; have c3 := hf3.cell; have z3 := hf3.free; have s3 := hf3.lt; have rs3 := hf3.rlt; have hg3 := hf3.set 0 (.string (bs t3)) (xc' := #[.string (bs t3), .slice none 0 0, .bool false, .slice none 0 0, .int .i64 0, .int .u32 0, .int .i64 0, .string ⟨#[]⟩, .slice none 0 0]) rfl)
  go_wp2_with (go_at_call 56; refine (next_bad hg3.rs).mono ?_; rintro e wa ⟨rfl, hba⟩)
  subst hx hy
  exact ⟨rfl, rfl, Below.then hg3.below hba⟩
set_option maxHeartbeats 1600000 in
theorem func_oddparams {B : Nat} {w : World} (ks : List Nd) (q : Int) (a : Option Addr) (c : Nat) (hg : Glob B w) (hw : wokL ks) (hrow : Row (fun b => b < B) w a ks) (hc : ks.length ≤ c) (l2 : List Nd) (HR2 : Hid (rdBy (rdSkipOf [102, 110]) q ks = .ok ((), l2))) (t3 : List UInt8) (il : Bool) (wd : List UInt8) (ps : List Nd) (qp : Int) (l4 : List Nd) (x y : Int) (hx : x = 6) (hy : y = qp) (HR3 : Hid (rdBy rdNameOf q l2 = .ok (t3, .mk il wd ps qp :: l4))) (hent4 : (!il || !wd.isEmpty) = true) :
    Calls Tryz.prog 63 #[.agg #[.bool true, .string ⟨#[]⟩, .slice a ks.length c, .int .i64 q]] w fun e w' => e = .panicked (flt x y) ∧ Below w.heap.size w w' := by
  have hB := hg.le
  have hb0 := Below.then (two_below w (.cells #[.bool true, .string ⟨#[]⟩, .slice a ks.length c, .int .i64 q] 66) (.cells #[.string ⟨#[]⟩, .slice none 0 0, .bool false, .slice none 0 0, .int .i64 0, .int .u32 0, .int .i64 0, .string ⟨#[]⟩, .slice none 0 0] 47)) (one_below _ (.cells #[.string ⟨#[]⟩, .slice none 0 0, .bool false, .slice none 0 0, .int .i64 0, .int .u32 0, .int .i64 0, .string ⟨#[]⟩, .slice none 0 0] 47))
  have hent := enter_ok (B := B) ks q a c (Nat.le_trans hB hb0.size) (hg.below hb0) hw (hrow.keep hb0) hc
  go_enter Tryz.func63, Tryz.ntmps63
  go_wp2_with (go_at_call 55; refine hent.mono ?_; rintro e w1 ⟨r1, rfl, hr1, hRs1, hb1⟩; have hf1 := Rh.start 47 _ #[.string ⟨#[]⟩, .slice none 0 0, .bool false, .slice none 0 0, .int .i64 0, .int .u32 0, .int .i64 0, .string ⟨#[]⟩, .slice none 0 0] #[.string ⟨#[]⟩, .slice none 0 0, .bool false, .slice none 0 0, .int .i64 0, .int .u32 0, .int .i64 0, .string ⟨#[]⟩, .slice none 0 0] hB hb1 hr1 hRs1; have c1 := hf1.cell; have z1 := hf1.free; have s1 := hf1.lt; have rs1 := hf1.rlt)
  go_wp2_with (go_at_call 57; refine (skip_tk [102, 110] hf1.rs).mono ?_; rintro e w2 hG2; obtain ⟨hRs2, v2, rfl, rfl⟩ := hG2.ok _ _ HR2.out; have hf2 := hf1.step hG2.kept hRs2; clear c1 z1; have c2 := hf2.cell; have z2 := hf2.free; have s2 := hf2.lt; have rs2 := hf2.rlt)
  go_wp2_with (go_at_call 58; refine (name_tk hf2.rs).mono ?_; rintro e w3 hG3; obtain ⟨hRs3, v3, rfl, rfl⟩ := hG3.ok _ _ HR3.out; have hf3 := hf2.step hG3.kept hRs3; clear c2 z2; have c3 := hf3.cell; have z3 := hf3.free; have s3 := hf3.lt; have rs3 := hf3.rlt; have hg3 := hf3.set 0 (.string (bs t3)) (xc' := #[.string (bs t3), .slice none 0 0, .bool false, .slice none 0 0, .int .i64 0, .int .u32 0, .int .i64 0, .string ⟨#[]⟩, .slice none 0 0]) rfl)
  go_wp2_with (go_at_call 56; refine (next_ok il wd ps qp hg3.rs).mono ?_; rintro e wa ⟨ad, cd, rfl, hrowa, hcapa, hRa, hKa⟩)
  go_wp2_with (go_at_call 55; refine (enter_bad _ _ _ _ _ _ hent4).mono ?_; rintro e wb ⟨rfl, hbb⟩)
  subst hx hy
  exact ⟨rfl, rfl, Below.then (hg3.step hKa hRa).below hbb⟩
set_option maxHeartbeats 1600000 in
theorem func_params {B : Nat} {w : World} (ks : List Nd) (q : Int) (a : Option Addr) (c : Nat) (hg : Glob B w) (hw : wokL ks) (hrow : Row (fun b => b < B) w a ks) (hc : ks.length ≤ c) (l2 : List Nd) (HR2 : Hid (rdBy (rdSkipOf [102, 110]) q ks = .ok ((), l2))) (t3 : List UInt8) (ps : List Nd) (qp : Int) (l4 : List Nd) (HR3 : Hid (rdBy rdNameOf q l2 = .ok (t3, .mk true [] ps qp :: l4))) (x y : Int) (HR4 : Hid (((rdParams 0 ps).bind fun x => Res.ok (x, ([] : List Nd))) = .bad x y)) :
    Calls Tryz.prog 63 #[.agg #[.bool true, .string ⟨#[]⟩, .slice a ks.length c, .int .i64 q]] w fun e w' => e = .panicked (flt x y) ∧ Below w.heap.size w w' := by
  have hB := hg.le
  have hb0 := Below.then (two_below w (.cells #[.bool true, .string ⟨#[]⟩, .slice a ks.length c, .int .i64 q] 66) (.cells #[.string ⟨#[]⟩, .slice none 0 0, .bool false, .slice none 0 0, .int .i64 0, .int .u32 0, .int .i64 0, .string ⟨#[]⟩, .slice none 0 0] 47)) (one_below _ (.cells #[.string ⟨#[]⟩, .slice none 0 0, .bool false, .slice none 0 0, .int .i64 0, .int .u32 0, .int .i64 0, .string ⟨#[]⟩, .slice none 0 0] 47))
  have hent := enter_ok (B := B) ks q a c (Nat.le_trans hB hb0.size) (hg.below hb0) hw (hrow.keep hb0) hc
  go_enter Tryz.func63, Tryz.ntmps63
  go_wp2_with (go_at_call 55; refine hent.mono ?_; rintro e w1 ⟨r1, rfl, hr1, hRs1, hb1⟩; have hf1 := Rh.start 47 _ #[.string ⟨#[]⟩, .slice none 0 0, .bool false, .slice none 0 0, .int .i64 0, .int .u32 0, .int .i64 0, .string ⟨#[]⟩, .slice none 0 0] #[.string ⟨#[]⟩, .slice none 0 0, .bool false, .slice none 0 0, .int .i64 0, .int .u32 0, .int .i64 0, .string ⟨#[]⟩, .slice none 0 0] hB hb1 hr1 hRs1; have c1 := hf1.cell; have z1 := hf1.free; have s1 := hf1.lt; have rs1 := hf1.rlt)
  go_wp2_with (go_at_call 57; refine (skip_tk [102, 110] hf1.rs).mono ?_; rintro e w2 hG2; obtain ⟨hRs2, v2, rfl, rfl⟩ := hG2.ok _ _ HR2.out; have hf2 := hf1.step hG2.kept hRs2; clear c1 z1; have c2 := hf2.cell; have z2 := hf2.free; have s2 := hf2.lt; have rs2 := hf2.rlt)
  go_wp2_with (go_at_call 58; refine (name_tk hf2.rs).mono ?_; rintro e w3 hG3; obtain ⟨hRs3, v3, rfl, rfl⟩ := hG3.ok _ _ HR3.out; have hf3 := hf2.step hG3.kept hRs3; clear c2 z2; have c3 := hf3.cell; have z3 := hf3.free; have s3 := hf3.lt; have rs3 := hf3.rlt; have hg3 := hf3.set 0 (.string (bs t3)) (xc' := #[.string (bs t3), .slice none 0 0, .bool false, .slice none 0 0, .int .i64 0, .int .u32 0, .int .i64 0, .string ⟨#[]⟩, .slice none 0 0]) rfl)
  go_wp2_with (go_at_call 56; refine (next_ok true [] ps qp hg3.rs).mono ?_; rintro e wa ⟨ad, cd, rfl, hrowa, hcapa, hRa, hKa⟩)
  go_wp2_with (go_at_call 55; refine (enter_ok (B := B) ps qp ad cd hRa.glob.le hRa.glob hg3.rs.wok.1.2 hrowa hcapa).mono ?_; rintro e wb ⟨rb, rfl, hrb, hRb, hbb⟩)
  go_wp2_with (go_at_call 96; refine (params_rs hRb).mono ?_; rintro e w4 hG4; obtain rfl := hG4.bad _ _ HR4.out)
  exact ⟨rfl, rfl, below_past (Below.then (hg3.step hKa hRa).below hbb) hG4.kept fun i e => by rw [e]; exact Nat.le_trans (Nat.le_trans hg3.below.size hKa.size) hrb⟩
set_option maxHeartbeats 1600000 in
theorem func_label {B : Nat} {w : World} (ks : List Nd) (q : Int) (a : Option Addr) (c : Nat) (hg : Glob B w) (hw : wokL ks) (hrow : Row (fun b => b < B) w a ks) (hc : ks.length ≤ c) (l2 : List Nd) (HR2 : Hid (rdBy (rdSkipOf [102, 110]) q ks = .ok ((), l2))) (t3 : List UInt8) (ps : List Nd) (qp : Int) (l4 : List Nd) (HR3 : Hid (rdBy rdNameOf q l2 = .ok (t3, .mk true [] ps qp :: l4))) (pl : List Pa) (HR4 : Hid (((rdParams 0 ps).bind fun x => Res.ok (x, ([] : List Nd))) = .ok (pl, []))) (x y : Int) (HR5 : Hid (rdBy rdLabelOf q l4 = .bad x y)) :
    Calls Tryz.prog 63 #[.agg #[.bool true, .string ⟨#[]⟩, .slice a ks.length c, .int .i64 q]] w fun e w' => e = .panicked (flt x y) ∧ Below w.heap.size w w' := by
  have hB := hg.le
  have hb0 := Below.then (two_below w (.cells #[.bool true, .string ⟨#[]⟩, .slice a ks.length c, .int .i64 q] 66) (.cells #[.string ⟨#[]⟩, .slice none 0 0, .bool false, .slice none 0 0, .int .i64 0, .int .u32 0, .int .i64 0, .string ⟨#[]⟩, .slice none 0 0] 47)) (one_below _ (.cells #[.string ⟨#[]⟩, .slice none 0 0, .bool false, .slice none 0 0, .int .i64 0, .int .u32 0, .int .i64 0, .string ⟨#[]⟩, .slice none 0 0] 47))
  have hent := enter_ok (B := B) ks q a c (Nat.le_trans hB hb0.size) (hg.below hb0) hw (hrow.keep hb0) hc
  go_enter Tryz.func63, Tryz.ntmps63
  go_wp2_with (go_at_call 55; refine hent.mono ?_; rintro e w1 ⟨r1, rfl, hr1, hRs1, hb1⟩; have hf1 := Rh.start 47 _ #[.string ⟨#[]⟩, .slice none 0 0, .bool false, .slice none 0 0, .int .i64 0, .int .u32 0, .int .i64 0, .string ⟨#[]⟩, .slice none 0 0] #[.string ⟨#[]⟩, .slice none 0 0, .bool false, .slice none 0 0, .int .i64 0, .int .u32 0, .int .i64 0, .string ⟨#[]⟩, .slice none 0 0] hB hb1 hr1 hRs1; have c1 := hf1.cell; have z1 := hf1.free; have s1 := hf1.lt; have rs1 := hf1.rlt)
  go_wp2_with (go_at_call 57; refine (skip_tk [102, 110] hf1.rs).mono ?_; rintro e w2 hG2; obtain ⟨hRs2, v2, rfl, rfl⟩ := hG2.ok _ _ HR2.out; have hf2 := hf1.step hG2.kept hRs2; clear c1 z1; have c2 := hf2.cell; have z2 := hf2.free; have s2 := hf2.lt; have rs2 := hf2.rlt)
  go_wp2_with (go_at_call 58; refine (name_tk hf2.rs).mono ?_; rintro e w3 hG3; obtain ⟨hRs3, v3, rfl, rfl⟩ := hG3.ok _ _ HR3.out; have hf3 := hf2.step hG3.kept hRs3; clear c2 z2; have c3 := hf3.cell; have z3 := hf3.free; have s3 := hf3.lt; have rs3 := hf3.rlt; have hg3 := hf3.set 0 (.string (bs t3)) (xc' := #[.string (bs t3), .slice none 0 0, .bool false, .slice none 0 0, .int .i64 0, .int .u32 0, .int .i64 0, .string ⟨#[]⟩, .slice none 0 0]) rfl)
  go_wp2_with (go_at_call 56; refine (next_ok true [] ps qp hg3.rs).mono ?_; rintro e wa ⟨ad, cd, rfl, hrowa, hcapa, hRa, hKa⟩)
  go_wp2_with (go_at_call 55; refine (enter_ok (B := B) ps qp ad cd hRa.glob.le hRa.glob hg3.rs.wok.1.2 hrowa hcapa).mono ?_; rintro e wb ⟨rb, rfl, hrb, hRb, hbb⟩)
  go_wp2_with (go_at_call 96; refine (params_rs hRb).mono ?_; rintro e w4 hG4; obtain ⟨hRs4, v4, rfl, pa4, pc4, rfl, hpr4, hpc4⟩ := hG4.ok _ _ HR4.out; have hrl := Nat.lt_of_lt_of_le (Nat.lt_of_lt_of_le hg3.lt hKa.size) hrb; have hrl2 := Nat.lt_of_lt_of_le (Nat.lt_of_lt_of_le hg3.rs.lt hKa.size) hrb; have hf4 := ((hg3.step hKa hRa).on hbb).other hG4.kept (by omega) (by omega) (by omega) (fun i e => by omega); clear c3 z3; have c4 := hf4.cell; have z4 := hf4.free; have s4 := hf4.lt; have rs4 := hf4.rlt; have hg4 := hf4.set 1 (.slice pa4 pl.length pc4) (xc' := #[.string (bs t3), .slice pa4 pl.length pc4, .bool false, .slice none 0 0, .int .i64 0, .int .u32 0, .int .i64 0, .string ⟨#[]⟩, .slice none 0 0]) rfl)
  go_wp2_with (go_at_call 97; refine (label_tk hg4.rs).mono ?_; rintro e w5 hG5; obtain rfl := hG5.bad _ _ HR5.out)
  exact ⟨rfl, rfl, below_past hg4.below hG5.kept fun i e => by rw [e]; exact hg4.hr⟩
end Go.Proofs.YtbpdhegfdmppgaaGreatDoor

/- CONTRACT of readFunc from its statements on. -/
namespace Go.Proofs.YtbpdhegfdmppgaaGreatDoor
open Go.ChangeShapes Go.WideShapes Go.ChangeAt Go.RowKit

set_option maxHeartbeats 12800000 in
set_option maxRecDepth 20000 in
theorem func_body {m B : Nat} {w : World} (ks : List Nd) (q : Int) (a : Option Addr) (c : Nat) (hg : Glob B w) (hw : wokL ks) (hrow : Row (fun b => b < B) w a ks) (hc : ks.length ≤ c) (hS : StmtN m) (hm : m ≤ 1000000000) (l2 : List Nd) (HR2 : Hid (rdBy (rdSkipOf [102, 110]) q ks = .ok ((), l2))) (t3 : List UInt8) (ps : List Nd) (qp : Int) (l4 : List Nd) (HR3 : Hid (rdBy rdNameOf q l2 = .ok (t3, .mk true [] ps qp :: l4))) (pl : List Pa) (HR4 : Hid (((rdParams 0 ps).bind fun x => Res.ok (x, ([] : List Nd))) = .ok (pl, []))) (t5 : Bool) (l5 : List Nd) (HR5 : Hid (rdBy rdLabelOf q l4 = .ok (t5, l5))) (hs5 : szL l5 ≤ m) :
    Calls Tryz.prog 63 #[.agg #[.bool true, .string ⟨#[]⟩, .slice a ks.length c, .int .i64 q]] w (Gives FuV w ((rdBody q l5).bind fun z => (rdEnd z.2.2).bind fun _ => .ok ⟨t3, pl, t5, z.1, z.2.1⟩)) := by
  have hB := hg.le
  have hb0 := Below.then (two_below w (.cells #[.bool true, .string ⟨#[]⟩, .slice a ks.length c, .int .i64 q] 66) (.cells #[.string ⟨#[]⟩, .slice none 0 0, .bool false, .slice none 0 0, .int .i64 0, .int .u32 0, .int .i64 0, .string ⟨#[]⟩, .slice none 0 0] 47)) (one_below _ (.cells #[.string ⟨#[]⟩, .slice none 0 0, .bool false, .slice none 0 0, .int .i64 0, .int .u32 0, .int .i64 0, .string ⟨#[]⟩, .slice none 0 0] 47))
  have hent := enter_ok (B := B) ks q a c (Nat.le_trans hB hb0.size) (hg.below hb0) hw (hrow.keep hb0) hc
  obtain ⟨i0, hi0, hz0, hz1, hz2⟩ := info_parts stmts_info
  go_enter Tryz.func63, Tryz.ntmps63
  go_wp2_with (go_at_call 55; refine hent.mono ?_; rintro e w1 ⟨r1, rfl, hr1, hRs1, hb1⟩; have hf1 := Rh.start 47 _ #[.string ⟨#[]⟩, .slice none 0 0, .bool false, .slice none 0 0, .int .i64 0, .int .u32 0, .int .i64 0, .string ⟨#[]⟩, .slice none 0 0] #[.string ⟨#[]⟩, .slice none 0 0, .bool false, .slice none 0 0, .int .i64 0, .int .u32 0, .int .i64 0, .string ⟨#[]⟩, .slice none 0 0] hB hb1 hr1 hRs1; have c1 := hf1.cell; have z1 := hf1.free; have s1 := hf1.lt; have rs1 := hf1.rlt)
  go_wp2_with (go_at_call 57; refine (skip_tk [102, 110] hf1.rs).mono ?_; rintro e w2 hG2; obtain ⟨hRs2, v2, rfl, rfl⟩ := hG2.ok _ _ HR2.out; have hf2 := hf1.step hG2.kept hRs2; clear c1 z1; have c2 := hf2.cell; have z2 := hf2.free; have s2 := hf2.lt; have rs2 := hf2.rlt)
  go_wp2_with (go_at_call 58; refine (name_tk hf2.rs).mono ?_; rintro e w3 hG3; obtain ⟨hRs3, v3, rfl, rfl⟩ := hG3.ok _ _ HR3.out; have hf3 := hf2.step hG3.kept hRs3; clear c2 z2; have c3 := hf3.cell; have z3 := hf3.free; have s3 := hf3.lt; have rs3 := hf3.rlt; have hg3 := hf3.set 0 (.string (bs t3)) (xc' := #[.string (bs t3), .slice none 0 0, .bool false, .slice none 0 0, .int .i64 0, .int .u32 0, .int .i64 0, .string ⟨#[]⟩, .slice none 0 0]) rfl)
  go_wp2_with (go_at_call 56; refine (next_ok true [] ps qp hg3.rs).mono ?_; rintro e wa ⟨ad, cd, rfl, hrowa, hcapa, hRa, hKa⟩)
  go_wp2_with (go_at_call 55; refine (enter_ok (B := B) ps qp ad cd hRa.glob.le hRa.glob hg3.rs.wok.1.2 hrowa hcapa).mono ?_; rintro e wb ⟨rb, rfl, hrb, hRb, hbb⟩)
  go_wp2_with (go_at_call 96; refine (params_rs hRb).mono ?_; rintro e w4 hG4; obtain ⟨hRs4, v4, rfl, pa4, pc4, rfl, hpr4, hpc4⟩ := hG4.ok _ _ HR4.out; have hrl := Nat.lt_of_lt_of_le (Nat.lt_of_lt_of_le hg3.lt hKa.size) hrb; have hrl2 := Nat.lt_of_lt_of_le (Nat.lt_of_lt_of_le hg3.rs.lt hKa.size) hrb; have hf4 := ((hg3.step hKa hRa).on hbb).other hG4.kept (by omega) (by omega) (by omega) (fun i e => by omega); clear c3 z3; have c4 := hf4.cell; have z4 := hf4.free; have s4 := hf4.lt; have rs4 := hf4.rlt; have hg4 := hf4.set 1 (.slice pa4 pl.length pc4) (xc' := #[.string (bs t3), .slice pa4 pl.length pc4, .bool false, .slice none 0 0, .int .i64 0, .int .u32 0, .int .i64 0, .string ⟨#[]⟩, .slice none 0 0]) rfl)
  go_wp2_with (go_at_call 97; refine (label_tk hg4.rs).mono ?_; rintro e w5 hG5; obtain ⟨hRs5, v5, rfl, rfl⟩ := hG5.ok _ _ HR5.out; have hf5 := hg4.step hG5.kept hRs5; clear c4 z4; have c5 := hf5.cell; have z5 := hf5.free; have s5 := hf5.lt; have rs5 := hf5.rlt; have hg5 := hf5.set 2 (.bool t5) (xc' := #[.string (bs t3), .slice pa4 pl.length pc4, .bool t5, .slice none 0 0, .int .i64 0, .int .u32 0, .int .i64 0, .string ⟨#[]⟩, .slice none 0 0]) rfl)
  have hpr5 : kPa.row (w5.setCell ⟨w.heap.size + 2, 2, none⟩ (.bool t5)) (fun b => w.heap.size + 2 < b ∧ b < w5.heap.size ∧ b ≠ r1) pa4 pl := by
    have hsz : wb.heap.size ≤ w4.heap.size := hG4.kept.size
    have hsz5 : w4.heap.size ≤ w5.heap.size := by have := hG5.kept.size; simpa [World.setCell] using this
    refine kPa.row_mono (by show 0 < 3; omega) hpr4 fun b hb hl => ⟨⟨by have := hbb.size; have := hKa.size; have := hg3.lt; omega, by omega, by have := hbb.size; have := hKa.size; have := hg3.rs.lt; omega⟩, ?_⟩
    have h1 := hbb.size
    have h2 := hKa.size
    have h3 := hg3.lt
    have h4 := hg3.rs.lt
    rw [setCell_other (by omega), hG5.kept.block b (by simpa [World.setCell] using hl) (by omega), setCell_other (by omega)]
  go_loopw [] (fun wr => ∃ (acc : List Sm) (l' : List Nd) (v : Value), acc.length + szL l' ≤ m ∧ w5.heap.size ≤ wr.heap.size ∧ kSm.own 110 wr (Own w5.heap.size v) w5.heap.size v acc ∧ Rh B w wr r1 l' q 47 (w.heap.size + 1) #[.string ⟨#[]⟩, .slice none 0 0, .bool false, .slice none 0 0, .int .i64 0, .int .u32 0, .int .i64 0, .string ⟨#[]⟩, .slice none 0 0] (w.heap.size + 2) #[.string (bs t3), .slice pa4 pl.length pc4, .bool t5, v, .int .i64 0, .int .u32 0, .int .i64 0, .string ⟨#[]⟩, .slice none 0 0] ∧ kPa.row wr (fun b => w.heap.size + 2 < b ∧ b < w5.heap.size ∧ b ≠ r1) pa4 pl ∧
    rdBody q l5 = (rdBody q l').bind fun z => .ok (acc ++ z.1, z.2.1, z.2.2)) (fun wr => leftAt wr r1)
  case atStart => exact ⟨[], l5, .slice none 0 0, by simpa using hs5, by simp [World.setCell], kSm.own_none _ _ _ _, hg5, hpr5, by cases rdBody q l5 <;> rfl⟩
  case round =>
    obtain ⟨acc, l', v, hk, hw5, hown, hR, hpr, hsp⟩ := hrel
    have HS : Hid (rdBody q l5 = (rdBody q l').bind fun z => .ok (acc ++ z.1, z.2.1, z.2.2)) := hsp
    have HW5 : Hid (w5.heap.size ≤ wr.heap.size) := hw5
    have HL1 : Hid (r1 < w5.heap.size) := hf5.rs.lt
    have HX5 : Hid (w.heap.size + 2 < w5.heap.size) := hf5.lt
    have HPR : Hid (kPa.row wr (fun b => w.heap.size + 2 < b ∧ b < w5.heap.size ∧ b ≠ r1) pa4 pl) := hpr
    obtain ⟨vx, vc, rfl⟩ := kSm.own_form hown
    have HO : Hid (kSm.own 110 wr (Own w5.heap.size (.slice vx acc.length vc)) w5.heap.size (.slice vx acc.length vc) acc) := hown
    clear hown hg4 hf5 hg5 c5 z5 hpr hpr5 hsp hw5
    have HV : Hid (∀ g, (Value.slice vx acc.length vc).ownBlock = some g → w5.heap.size ≤ g ∧ g < wr.heap.size) := kSm.own_lt HO.out
    cases l' with
    | nil =>
      have HB : Hid (rdBody q l5 = .bad 6 q) := by show _ = _; rw [HS.out, rdBody_nil]; rfl
      go_wp2_with (go_at_call 56; refine (next_bad hR.rs).mono ?_; rintro e w6 ⟨rfl, hb6⟩)
      exact ⟨rfl, .ofBad (by rw [HB.out]; rfl) (Below.then hR.below hb6)⟩
    | cons nd l6 =>
      obtain ⟨il, wd, kk, qq⟩ := nd
      have hk2 : acc.length + 1 + szL l6 ≤ m := by simp only [szL, Nd.sz] at hk; omega
      have hszk0 : szL kk ≤ m := by simp only [szL, Nd.sz] at hk; omega
      by_cases hent6 : (!il || !wd.isEmpty) = true
      · have HB : Hid (rdBody q l5 = .bad 6 qq) := by show _ = _; rw [HS.out, rdBody_cons, rdEnter, if_pos hent6]; rfl
        go_wp2_with (go_at_call 56; refine (next_ok il wd kk qq hR.rs).mono ?_; rintro e w6 ⟨a6, c6, rfl, hrow6, hcap6, hR6, hK6⟩)
        go_wp2_with (go_at_call 55; refine (enter_bad _ _ _ _ _ _ hent6).mono ?_; rintro e w7 ⟨rfl, hb7⟩)
        exact ⟨rfl, .ofBad (by rw [HB.out]; rfl) (Below.then (hR.step hK6 hR6).below hb7)⟩
      · obtain ⟨hil, hwd⟩ : il = true ∧ wd = [] := by simpa using hent6
        subst hil hwd
        clear hent6
        have HE : Hid (rdEnter (.mk true [] kk qq) = .ok (kk, qq)) := rfl
        cases kk with
        | nil =>
          have HB : Hid (rdBody q l5 = .bad 6 qq) := by show _ = _; rw [HS.out, rdBody_cons]; rfl
          go_wp2_with (go_at_call 56; refine (next_ok true [] [] qq hR.rs).mono ?_; rintro e w6 ⟨a6, c6, rfl, hrow6, hcap6, hR6, hK6⟩)
          go_wp2_with (go_at_call 55; refine (enter_ok (B := B) [] qq a6 c6 hR6.glob.le hR6.glob hR.rs.wok.1.2 hrow6 hcap6).mono ?_; rintro e w7 ⟨r7, rfl, hr7, hR7, hb7⟩)
          go_wp2_with (go_at_call 56; refine (next_bad hR7).mono ?_; rintro e w8 ⟨rfl, hb8⟩)
          exact ⟨rfl, .ofBad (by rw [HB.out]; rfl) (Below.then (Below.then (hR.step hK6 hR6).below hb7) hb8)⟩
        | cons n1 kk =>
          obtain ⟨il1, wd1, ks1, q1⟩ := n1
          have hszk : szL kk ≤ m := by simp only [szL] at hszk0; omega
          have hw6 : wokL (Nd.mk il1 wd1 ks1 q1 :: kk) := hR.rs.wok.1.2
          have HS2 : Hid (rdBody q l5 = ((rdText (.mk il1 wd1 ks1 q1)).bind fun s => if s = [114, 101, 116] then (rdBy rdE qq kk).bind fun e => (rdEnd e.2).bind fun _ => .ok ([], e.1, l6) else (rdSt qq (.mk il1 wd1 ks1 q1 :: kk)).bind fun a => (rdBody q l6).bind fun z => .ok (a :: z.1, z.2.1, z.2.2)).bind fun z => .ok (acc ++ z.1, z.2.1, z.2.2)) := by
            show _ = _
            rw [HS.out, rdBody_cons]
            rfl
          clear HS
          cases ht : rdText (.mk il1 wd1 ks1 q1) with
          | bad x y =>
            have HT : Hid (rdText (.mk il1 wd1 ks1 q1) = .bad x y) := ht
            have HB : Hid (rdBody q l5 = .bad x y) := by show _ = _; rw [HS2.out, ht]; rfl
            clear ht
            go_wp2_with (go_at_call_of 56 (Value.pointer (some ⟨r1, 0, none⟩)); refine (next_ok true [] (.mk il1 wd1 ks1 q1 :: kk) qq hR.rs).mono ?_; rintro e w6 ⟨a6, c6, rfl, hrow6, hcap6, hR6, hK6⟩)
            go_wp2_with (go_at_call 55; refine (enter_ok (B := B) (.mk il1 wd1 ks1 q1 :: kk) qq a6 c6 hR6.glob.le hR6.glob hw6 hrow6 hcap6).mono ?_; rintro e w7 ⟨r7, rfl, hr7, hR7, hb7⟩)
            go_wp2_with (go_at_call_of 56 (Value.pointer (some ⟨r7, 0, none⟩)); refine (next_ok il1 wd1 ks1 q1 hR7).mono ?_; rintro e w8 ⟨a8, c8, rfl, hrow8, hcap8, hR8, hK8⟩)
            go_wp2_with (go_at_call 94; refine (text_bs il1 wd1 ks1 q1 _ _ _).mono ?_; rw [HT.out]; simp only [endOf]; rintro e w9 ⟨rfl, hb9⟩)
            have hl7'' : wr.heap.size ≤ r7 := Nat.le_trans hK6.size hr7
            exact ⟨rfl, .ofBad (by rw [HB.out]; rfl) (Below.then (below_past (Below.then (hR.step hK6 hR6).below hb7) hK8 fun i e => by rw [e]; exact Nat.le_trans hR.below.size hl7'') (below_out hb9))⟩
          | ok s =>
            have HT : Hid (rdText (.mk il1 wd1 ks1 q1) = .ok s) := ht
            by_cases hret : s = [114, 101, 116]
            · subst hret
              have hts : (bs [114, 101, 116]).toList = [114, 101, 116] := by rw [ByteArray.toList_eq, bs_list]
              have HS3 : Hid (rdBody q l5 = ((rdBy rdE qq kk).bind fun e => (rdEnd e.2).bind fun _ => .ok ([], e.1, l6)).bind fun z => .ok (acc ++ z.1, z.2.1, z.2.2)) := by show _ = _; rw [HS2.out, ht]; rfl
              clear ht HS2
              cases hre : rdBy rdE qq kk with
              | bad x y =>
                have HRE : Hid (rdBy rdE qq kk = .bad x y) := hre
                clear hre
                go_wp2_with (go_at_call_of 56 (Value.pointer (some ⟨r1, 0, none⟩)); refine (next_ok true [] (.mk il1 wd1 ks1 q1 :: kk) qq hR.rs).mono ?_; rintro e w6 ⟨a6, c6, rfl, hrow6, hcap6, hR6, hK6⟩)
                go_wp2_with (go_at_call 55; refine (enter_ok (B := B) (.mk il1 wd1 ks1 q1 :: kk) qq a6 c6 hR6.glob.le hR6.glob hw6 hrow6 hcap6).mono ?_; rintro e w7 ⟨r7, rfl, hr7, hR7, hb7⟩)
                go_wp2_with (go_at_call_of 56 (Value.pointer (some ⟨r7, 0, none⟩)); refine (next_ok il1 wd1 ks1 q1 hR7).mono ?_; rintro e w8 ⟨a8, c8, rfl, hrow8, hcap8, hR8, hK8⟩)
                go_wp2_with (go_at_call 94; refine (text_bs il1 wd1 ks1 q1 _ _ _).mono ?_; rw [HT.out]; simp only [endOf, sval]; rintro e w9 ⟨rfl, hb9⟩; have hn9 := below_box hb9; obtain ⟨b90, b91, b92, b93⟩ := cells4 hn9)
                have hl7 : w.heap.size + 2 < r7 := Nat.lt_of_lt_of_le (Nat.lt_of_lt_of_le hR.lt hK6.size) hr7
                have hl7' : r1 < r7 := Nat.lt_of_lt_of_le (Nat.lt_of_lt_of_le hR.rs.lt hK6.size) hr7
                have hl7'' : wr.heap.size ≤ r7 := Nat.le_trans hK6.size hr7
                have hR9 := (((hR.step hK6 hR6).on hb7).other hK8 (by omega) (by omega) (by omega) (fun i e => by omega)).on (below_out hb9)
                have hx5 := HX5.out
                have hl1 : r1 < w5.heap.size := HL1.out
                have hw5 := HW5.out
                have hk9 : Kept (fun k => k = r1) wr w9 := ((hK6.on hb7).past hK8 (fun i e => by rw [e]; exact hl7'')).on (below_out hb9)
                go_wp2_with (go_at_call 98; refine (expr_tk (hR8.below (below_out hb9))).mono ?_; rintro e w10 hG10; obtain rfl := hG10.bad _ _ HRE.out)
                exact ⟨rfl, .ofBad (by rw [HS3.out, HRE.out]; rfl) (below_past hR9.below hG10.kept fun i e => by rw [e]; omega)⟩
              | ok y =>
                obtain ⟨⟨k10, n10, o10, m10, xl10⟩, l10⟩ := y
                have HRE : Hid (rdBy rdE qq kk = .ok (.mk k10 n10 o10 m10 xl10, l10)) := hre
                clear hre
                have hBX : B ≤ w.heap.size + 2 := by have := hR.hB; omega
                cases l10 with
                | cons nd10 l10 =>
                  obtain ⟨il10, wd10, ks10, q10⟩ := nd10
                  have HB : Hid (rdBody q l5 = .bad 6 q10) := by show _ = _; rw [HS3.out, HRE.out]; rfl
                  go_wp2_with (go_at_call_of 56 (Value.pointer (some ⟨r1, 0, none⟩)); refine (next_ok true [] (.mk il1 wd1 ks1 q1 :: kk) qq hR.rs).mono ?_; rintro e w6 ⟨a6, c6, rfl, hrow6, hcap6, hR6, hK6⟩)
                  go_wp2_with (go_at_call 55; refine (enter_ok (B := B) (.mk il1 wd1 ks1 q1 :: kk) qq a6 c6 hR6.glob.le hR6.glob hw6 hrow6 hcap6).mono ?_; rintro e w7 ⟨r7, rfl, hr7, hR7, hb7⟩)
                  go_wp2_with (go_at_call_of 56 (Value.pointer (some ⟨r7, 0, none⟩)); refine (next_ok il1 wd1 ks1 q1 hR7).mono ?_; rintro e w8 ⟨a8, c8, rfl, hrow8, hcap8, hR8, hK8⟩)
                  go_wp2_with (go_at_call 94; refine (text_bs il1 wd1 ks1 q1 _ _ _).mono ?_; rw [HT.out]; simp only [endOf, sval]; rintro e w9 ⟨rfl, hb9⟩; have hn9 := below_box hb9; obtain ⟨b90, b91, b92, b93⟩ := cells4 hn9)
                  have hl7 : w.heap.size + 2 < r7 := Nat.lt_of_lt_of_le (Nat.lt_of_lt_of_le hR.lt hK6.size) hr7
                  have hl7' : r1 < r7 := Nat.lt_of_lt_of_le (Nat.lt_of_lt_of_le hR.rs.lt hK6.size) hr7
                  have hl7'' : wr.heap.size ≤ r7 := Nat.le_trans hK6.size hr7
                  have hR9 := (((hR.step hK6 hR6).on hb7).other hK8 (by omega) (by omega) (by omega) (fun i e => by omega)).on (below_out hb9)
                  have hx5 := HX5.out
                  have hl1 : r1 < w5.heap.size := HL1.out
                  have hw5 := HW5.out
                  have hk9 : Kept (fun k => k = r1) wr w9 := ((hK6.on hb7).past hK8 (fun i e => by rw [e]; exact hl7'')).on (below_out hb9)
                  go_wp2_with (go_at_call 98; refine (expr_tk (hR8.below (below_out hb9))).mono ?_; rintro e w10 hG10; obtain ⟨hRs10, v10, rfl, va10, vc10, rfl, hvc10, hvr10⟩ := hG10.ok _ _ HRE.out; have hf10 := hR9.other hG10.kept (by omega) (by omega) (by omega) (fun i e => by omega); have c10 := hf10.cell; have z10 := hf10.free; have s10 := hf10.lt; have hg10 := (((((hf10.set 4 (.int .i64 k10) (xc' := #[.string (bs t3), .slice pa4 pl.length pc4, .bool t5, .slice vx acc.length vc, .int .i64 k10, .int .u32 0, .int .i64 0, .string ⟨#[]⟩, .slice none 0 0]) rfl).set 5 (.int .u32 n10) (xc' := #[.string (bs t3), .slice pa4 pl.length pc4, .bool t5, .slice vx acc.length vc, .int .i64 k10, .int .u32 n10, .int .i64 0, .string ⟨#[]⟩, .slice none 0 0]) rfl).set 6 (.int .i64 o10) (xc' := #[.string (bs t3), .slice pa4 pl.length pc4, .bool t5, .slice vx acc.length vc, .int .i64 k10, .int .u32 n10, .int .i64 o10, .string ⟨#[]⟩, .slice none 0 0]) rfl).set 7 (.string (bs m10)) (xc' := #[.string (bs t3), .slice pa4 pl.length pc4, .bool t5, .slice vx acc.length vc, .int .i64 k10, .int .u32 n10, .int .i64 o10, .string (bs m10), .slice none 0 0]) rfl).set 8 (.slice va10 xl10.length vc10) (xc' := #[.string (bs t3), .slice pa4 pl.length pc4, .bool t5, .slice vx acc.length vc, .int .i64 k10, .int .u32 n10, .int .i64 o10, .string (bs m10), .slice va10 xl10.length vc10]) rfl); clear hR9)
                  go_wp2_with (go_at_call_of 59 (Value.pointer (some ⟨r7, 0, none⟩)); refine (end_rs (hRs10.keep ((((((Kept.refl (fun k => k = w.heap.size + 2) w10).set_in _ _ _ rfl).set_in _ _ _ rfl).set_in _ _ _ rfl).set_in _ _ _ rfl).set_in _ _ _ rfl) (fun k e => by omega) (by omega))).mono ?_; simp only [rdEnd, endOf, Nd.pos]; rintro e w11 ⟨rfl, hb11⟩)
                  exact ⟨rfl, .ofBad (by rw [HB.out]; rfl) (Below.then hg10.below hb11)⟩
                | nil =>
                  cases l6 with
                  | cons nd6 l6 =>
                    obtain ⟨il9, wd9, ks9, q9⟩ := nd6
                    have HB : Hid ((rdBody q l5).bind (fun z => (rdEnd z.2.2).bind fun _ => Res.ok (Fu.mk t3 pl t5 z.1 z.2.1)) = .bad 6 q9) := by show _ = _; rw [HS3.out, HRE.out]; rfl
                    go_wp2_with (go_at_call_of 56 (Value.pointer (some ⟨r1, 0, none⟩)); refine (next_ok true [] (.mk il1 wd1 ks1 q1 :: kk) qq hR.rs).mono ?_; rintro e w6 ⟨a6, c6, rfl, hrow6, hcap6, hR6, hK6⟩)
                    go_wp2_with (go_at_call 55; refine (enter_ok (B := B) (.mk il1 wd1 ks1 q1 :: kk) qq a6 c6 hR6.glob.le hR6.glob hw6 hrow6 hcap6).mono ?_; rintro e w7 ⟨r7, rfl, hr7, hR7, hb7⟩)
                    go_wp2_with (go_at_call_of 56 (Value.pointer (some ⟨r7, 0, none⟩)); refine (next_ok il1 wd1 ks1 q1 hR7).mono ?_; rintro e w8 ⟨a8, c8, rfl, hrow8, hcap8, hR8, hK8⟩)
                    go_wp2_with (go_at_call 94; refine (text_bs il1 wd1 ks1 q1 _ _ _).mono ?_; rw [HT.out]; simp only [endOf, sval]; rintro e w9 ⟨rfl, hb9⟩; have hn9 := below_box hb9; obtain ⟨b90, b91, b92, b93⟩ := cells4 hn9)
                    have hl7 : w.heap.size + 2 < r7 := Nat.lt_of_lt_of_le (Nat.lt_of_lt_of_le hR.lt hK6.size) hr7
                    have hl7' : r1 < r7 := Nat.lt_of_lt_of_le (Nat.lt_of_lt_of_le hR.rs.lt hK6.size) hr7
                    have hl7'' : wr.heap.size ≤ r7 := Nat.le_trans hK6.size hr7
                    have hR9 := (((hR.step hK6 hR6).on hb7).other hK8 (by omega) (by omega) (by omega) (fun i e => by omega)).on (below_out hb9)
                    have hx5 := HX5.out
                    have hl1 : r1 < w5.heap.size := HL1.out
                    have hw5 := HW5.out
                    have hk9 : Kept (fun k => k = r1) wr w9 := ((hK6.on hb7).past hK8 (fun i e => by rw [e]; exact hl7'')).on (below_out hb9)
                    go_wp2_with (go_at_call 98; refine (expr_tk (hR8.below (below_out hb9))).mono ?_; rintro e w10 hG10; obtain ⟨hRs10, v10, rfl, va10, vc10, rfl, hvc10, hvr10⟩ := hG10.ok _ _ HRE.out; have hf10 := hR9.other hG10.kept (by omega) (by omega) (by omega) (fun i e => by omega); have c10 := hf10.cell; have z10 := hf10.free; have s10 := hf10.lt; have hg10 := (((((hf10.set 4 (.int .i64 k10) (xc' := #[.string (bs t3), .slice pa4 pl.length pc4, .bool t5, .slice vx acc.length vc, .int .i64 k10, .int .u32 0, .int .i64 0, .string ⟨#[]⟩, .slice none 0 0]) rfl).set 5 (.int .u32 n10) (xc' := #[.string (bs t3), .slice pa4 pl.length pc4, .bool t5, .slice vx acc.length vc, .int .i64 k10, .int .u32 n10, .int .i64 0, .string ⟨#[]⟩, .slice none 0 0]) rfl).set 6 (.int .i64 o10) (xc' := #[.string (bs t3), .slice pa4 pl.length pc4, .bool t5, .slice vx acc.length vc, .int .i64 k10, .int .u32 n10, .int .i64 o10, .string ⟨#[]⟩, .slice none 0 0]) rfl).set 7 (.string (bs m10)) (xc' := #[.string (bs t3), .slice pa4 pl.length pc4, .bool t5, .slice vx acc.length vc, .int .i64 k10, .int .u32 n10, .int .i64 o10, .string (bs m10), .slice none 0 0]) rfl).set 8 (.slice va10 xl10.length vc10) (xc' := #[.string (bs t3), .slice pa4 pl.length pc4, .bool t5, .slice vx acc.length vc, .int .i64 k10, .int .u32 n10, .int .i64 o10, .string (bs m10), .slice va10 xl10.length vc10]) rfl); clear hR9)
                    go_wp2_with (go_at_call_of 59 (Value.pointer (some ⟨r7, 0, none⟩)); refine (end_rs (hRs10.keep ((((((Kept.refl (fun k => k = w.heap.size + 2) w10).set_in _ _ _ rfl).set_in _ _ _ rfl).set_in _ _ _ rfl).set_in _ _ _ rfl).set_in _ _ _ rfl) (fun k e => by omega) (by omega))).mono ?_; simp only [rdEnd, endOf]; rintro e w11 ⟨rfl, hb11⟩; have hf11 := hg10.on hb11; clear hg10)
                    go_wp2_with (go_at_call_of 59 (Value.pointer (some ⟨r1, 0, none⟩)); refine (end_rs hf11.rs).mono ?_; simp only [rdEnd, endOf, Nd.pos]; rintro e w12 ⟨rfl, hb12⟩)
                    exact ⟨rfl, .ofBad HB.out (Below.then hf11.below hb12)⟩
                  | nil =>
                    have HB : Hid ((rdBody q l5).bind (fun z => (rdEnd z.2.2).bind fun _ => Res.ok (Fu.mk t3 pl t5 z.1 z.2.1)) = .ok ⟨t3, pl, t5, acc, .mk k10 n10 o10 m10 xl10⟩) := by show _ = _; rw [HS3.out, HRE.out]; simp [rdEnd]
                    go_wp2_with (go_at_call_of 56 (Value.pointer (some ⟨r1, 0, none⟩)); refine (next_ok true [] (.mk il1 wd1 ks1 q1 :: kk) qq hR.rs).mono ?_; rintro e w6 ⟨a6, c6, rfl, hrow6, hcap6, hR6, hK6⟩)
                    go_wp2_with (go_at_call 55; refine (enter_ok (B := B) (.mk il1 wd1 ks1 q1 :: kk) qq a6 c6 hR6.glob.le hR6.glob hw6 hrow6 hcap6).mono ?_; rintro e w7 ⟨r7, rfl, hr7, hR7, hb7⟩)
                    go_wp2_with (go_at_call_of 56 (Value.pointer (some ⟨r7, 0, none⟩)); refine (next_ok il1 wd1 ks1 q1 hR7).mono ?_; rintro e w8 ⟨a8, c8, rfl, hrow8, hcap8, hR8, hK8⟩)
                    go_wp2_with (go_at_call 94; refine (text_bs il1 wd1 ks1 q1 _ _ _).mono ?_; rw [HT.out]; simp only [endOf, sval]; rintro e w9 ⟨rfl, hb9⟩; have hn9 := below_box hb9; obtain ⟨b90, b91, b92, b93⟩ := cells4 hn9)
                    have hl7 : w.heap.size + 2 < r7 := Nat.lt_of_lt_of_le (Nat.lt_of_lt_of_le hR.lt hK6.size) hr7
                    have hl7' : r1 < r7 := Nat.lt_of_lt_of_le (Nat.lt_of_lt_of_le hR.rs.lt hK6.size) hr7
                    have hl7'' : wr.heap.size ≤ r7 := Nat.le_trans hK6.size hr7
                    have hR9 := (((hR.step hK6 hR6).on hb7).other hK8 (by omega) (by omega) (by omega) (fun i e => by omega)).on (below_out hb9)
                    have hx5 := HX5.out
                    have hl1 : r1 < w5.heap.size := HL1.out
                    have hw5 := HW5.out
                    have hk9 : Kept (fun k => k = r1) wr w9 := ((hK6.on hb7).past hK8 (fun i e => by rw [e]; exact hl7'')).on (below_out hb9)
                    go_wp2_with (go_at_call 98; refine (expr_tk (hR8.below (below_out hb9))).mono ?_; rintro e w10 hG10; obtain ⟨hRs10, v10, rfl, va10, vc10, rfl, hvc10, hvr10⟩ := hG10.ok _ _ HRE.out; have hf10 := hR9.other hG10.kept (by omega) (by omega) (by omega) (fun i e => by omega); have c10 := hf10.cell; have z10 := hf10.free; have s10 := hf10.lt; have hg10 := (((((hf10.set 4 (.int .i64 k10) (xc' := #[.string (bs t3), .slice pa4 pl.length pc4, .bool t5, .slice vx acc.length vc, .int .i64 k10, .int .u32 0, .int .i64 0, .string ⟨#[]⟩, .slice none 0 0]) rfl).set 5 (.int .u32 n10) (xc' := #[.string (bs t3), .slice pa4 pl.length pc4, .bool t5, .slice vx acc.length vc, .int .i64 k10, .int .u32 n10, .int .i64 0, .string ⟨#[]⟩, .slice none 0 0]) rfl).set 6 (.int .i64 o10) (xc' := #[.string (bs t3), .slice pa4 pl.length pc4, .bool t5, .slice vx acc.length vc, .int .i64 k10, .int .u32 n10, .int .i64 o10, .string ⟨#[]⟩, .slice none 0 0]) rfl).set 7 (.string (bs m10)) (xc' := #[.string (bs t3), .slice pa4 pl.length pc4, .bool t5, .slice vx acc.length vc, .int .i64 k10, .int .u32 n10, .int .i64 o10, .string (bs m10), .slice none 0 0]) rfl).set 8 (.slice va10 xl10.length vc10) (xc' := #[.string (bs t3), .slice pa4 pl.length pc4, .bool t5, .slice vx acc.length vc, .int .i64 k10, .int .u32 n10, .int .i64 o10, .string (bs m10), .slice va10 xl10.length vc10]) rfl); clear hR9)
                    go_wp2_with (go_at_call_of 59 (Value.pointer (some ⟨r7, 0, none⟩)); refine (end_rs (hRs10.keep ((((((Kept.refl (fun k => k = w.heap.size + 2) w10).set_in _ _ _ rfl).set_in _ _ _ rfl).set_in _ _ _ rfl).set_in _ _ _ rfl).set_in _ _ _ rfl) (fun k e => by omega) (by omega))).mono ?_; simp only [rdEnd, endOf]; rintro e w11 ⟨rfl, hb11⟩; have hf11 := hg10.on hb11; clear hg10)
                    go_wp2_with (first | (go_at_call_of 59 (Value.pointer (some ⟨r1, 0, none⟩)); refine (end_rs hf11.rs).mono ?_; simp only [rdEnd, endOf]; rintro e w12 ⟨rfl, hb12⟩; have hf12 := hf11.on hb12) | (refine wpList_load_row rfl 47 (.tmp 3) rfl (w.heap.size + 2) rfl 47 #[.string (bs t3), .slice pa4 pl.length pc4, .bool t5, .slice vx acc.length vc, .int .i64 k10, .int .u32 n10, .int .i64 o10, .string (bs m10), .slice va10 xl10.length vc10] (0, 0) _ hf12.x Tryz.underlying47 rfl info_func ?_) | (refine wpList_store_row rfl 47 (.tmp 2) _ rfl (w.heap.size + 1) #[.string (bs t3), .slice pa4 pl.length pc4, .bool t5, .slice vx acc.length vc, .int .i64 k10, .int .u32 n10, .int .i64 o10, .string (bs m10), .slice va10 xl10.length vc10] rfl rfl 47 #[.string ⟨#[]⟩, .slice none 0 0, .bool false, .slice none 0 0, .int .i64 0, .int .u32 0, .int .i64 0, .string ⟨#[]⟩, .slice none 0 0] hf12.res info_func rfl (by simp [Value.oneCell']) ?_))
                    have hEn := setRow_at (cs := #[.string (bs t3), .slice pa4 pl.length pc4, .bool t5, .slice vx acc.length vc, .int .i64 k10, .int .u32 n10, .int .i64 o10, .string (bs m10), .slice va10 xl10.length vc10]) hf12.res
                    have hKw := setRow_kept (b := w.heap.size + 1) #[.string (bs t3), .slice pa4 pl.length pc4, .bool t5, .slice vx acc.length vc, .int .i64 k10, .int .u32 n10, .int .i64 o10, .string (bs m10), .slice va10 xl10.length vc10] (Below.kept hf12.below (fun _ => False)) (by omega)
                    have hKb := setRow_in w12 (w.heap.size + 1) #[.string (bs t3), .slice pa4 pl.length pc4, .bool t5, .slice vx acc.length vc, .int .i64 k10, .int .u32 n10, .int .i64 o10, .string (bs m10), .slice va10 xl10.length vc10]
                    generalize World.setRow _ _ _ = W at hEn hKw hKb ⊢
                    refine bodyPost_ret_by (results_row Tryz.results63 rfl (load_func hEn rfl)) rfl ?_
                    have hkA : Kept (fun k => k = r1 ∨ k = w.heap.size + 2) wr w10 := (hk9.mono fun k _ e => Or.inl e).past hG10.kept (fun i e => by rw [e]; exact hl7'')
                    have hkB : Kept (fun k => k = r1 ∨ k = w.heap.size + 2) wr w12 := (((((((hkA.set_in _ _ _ (Or.inr rfl)).set_in _ _ _ (Or.inr rfl)).set_in _ _ _ (Or.inr rfl)).set_in _ _ _ (Or.inr rfl)).set_in _ _ _ (Or.inr rfl))).on hb11).on hb12
                    have hkC : Kept (fun k => k = r1 ∨ k = w.heap.size + 2 ∨ k = w.heap.size + 1) wr W := (hkB.mono fun k _ e => by omega).trans (hKb.mono fun k _ e => by omega)
                    have hrdS := kSm.own_rd (kSm.own_keep HO.out hkC (fun k e => by omega)) (T := fun b => w.heap.size ≤ b) (fun b hb => by have := hb.1; omega) (fun g hg => by have := (HV.out g hg).1; omega)
                    obtain ⟨xa, xc, hxe, hxr, hxc⟩ := hrdS
                    cases hxe
                    have hkD : Kept (fun k => k = w.heap.size + 2 ∨ k = w.heap.size + 1) w10 W := (((((((((Kept.refl (fun k => k = w.heap.size + 2) w10).set_in _ _ _ rfl).set_in _ _ _ rfl).set_in _ _ _ rfl).set_in _ _ _ rfl).set_in _ _ _ rfl)).on hb11).on hb12 |>.mono fun k _ e => Or.inl e).trans (hKb.mono fun k _ e => by omega)
                    refine .ofOk HB.out (none_below hKw) ⟨_, rfl, pa4, pc4, _, _, va10, vc10, rfl, hpc4, hxc, hvc10, ?_, (smR_row _ _ _ _).2 hxr, ?_⟩
                    · exact kPa.row_mono (by show 0 < 3; omega) HPR.out fun b hb hl => ⟨by omega, hkC.block b hl (by omega)⟩
                    · exact exR_mono (fun b hb hl => ⟨by have := hk9.size; omega, hkD.block b hl (by have := hk9.size; omega)⟩) hvr10
            · have g1 : ¬ (bs s).toList = [114, 101, 116] := by rw [ByteArray.toList_eq, bs_list]; exact hret
              have k1 : ((bs s).toList == [114, 101, 116]) = false := by simpa using g1
              have HS3 : Hid (rdBody q l5 = ((rdSt qq (.mk il1 wd1 ks1 q1 :: kk)).bind fun a => (rdBody q l6).bind fun z => .ok (a :: z.1, z.2.1, z.2.2)).bind fun z => .ok (acc ++ z.1, z.2.1, z.2.2)) := by show _ = _; rw [HS2.out, ht, Res.bind_ok, if_neg hret]
              clear ht HS2 hret
              cases hst : rdSt qq (.mk il1 wd1 ks1 q1 :: kk) with
              | bad x y =>
                have HST : Hid ((rdSt qq (.mk il1 wd1 ks1 q1 :: kk)).bind (fun x => Res.ok (x, ([] : List Nd))) = .bad x y) := by show _ = _; rw [hst]; rfl
                have HB : Hid (rdBody q l5 = .bad x y) := by show _ = _; rw [HS3.out, hst]; rfl
                clear hst
                go_wp2_with (go_at_call_of 56 (Value.pointer (some ⟨r1, 0, none⟩)); refine (next_ok true [] (.mk il1 wd1 ks1 q1 :: kk) qq hR.rs).mono ?_; rintro e w6 ⟨a6, c6, rfl, hrow6, hcap6, hR6, hK6⟩)
                go_wp2_with (go_at_call 55; refine (enter_ok (B := B) (.mk il1 wd1 ks1 q1 :: kk) qq a6 c6 hR6.glob.le hR6.glob hw6 hrow6 hcap6).mono ?_; rintro e w7 ⟨r7, rfl, hr7, hR7, hb7⟩)
                go_wp2_with (go_at_call_of 56 (Value.pointer (some ⟨r7, 0, none⟩)); refine (next_ok il1 wd1 ks1 q1 hR7).mono ?_; rintro e w8 ⟨a8, c8, rfl, hrow8, hcap8, hR8, hK8⟩)
                go_wp2_with (go_at_call 94; refine (text_bs il1 wd1 ks1 q1 _ _ _).mono ?_; rw [HT.out]; simp only [endOf, sval]; rintro e w9 ⟨rfl, hb9⟩; have hn9 := below_box hb9; obtain ⟨b90, b91, b92, b93⟩ := cells4 hn9)
                have hl7 : w.heap.size + 2 < r7 := Nat.lt_of_lt_of_le (Nat.lt_of_lt_of_le hR.lt hK6.size) hr7
                have hl7' : r1 < r7 := Nat.lt_of_lt_of_le (Nat.lt_of_lt_of_le hR.rs.lt hK6.size) hr7
                have hl7'' : wr.heap.size ≤ r7 := Nat.le_trans hK6.size hr7
                have hR9 := (((hR.step hK6 hR6).on hb7).other hK8 (by omega) (by omega) (by omega) (fun i e => by omega)).on (below_out hb9)
                have hx5 := HX5.out
                have hl1 : r1 < w5.heap.size := HL1.out
                have hw5 := HW5.out
                have hk9 : Kept (fun k => k = r1) wr w9 := ((hK6.on hb7).past hK8 (fun i e => by rw [e]; exact hl7'')).on (below_out hb9)
                have hr79 := (hR8.below (below_out hb9)).below (drew_below w9)
                have c9 := hR9.cell
                have z9 := hR9.free
                have HNR : Hid (∀ k, k < w5.heap.size → ¬ (Value.slice vx acc.length vc).ownBlock = some k) := fun k hk e => by have := (HV.out k e).1; omega
                have HGE : Hid (∀ k, (Value.slice vx acc.length vc).ownBlock = some k → w.heap.size ≤ k) := fun k e => by have := (HV.out k e).1; omega
                have hsz10 : ∀ {u : World}, w9.drew.heap.size ≤ u.heap.size → w5.heap.size ≤ u.heap.size := fun {u} h => Nat.le_trans (Nat.le_trans hw5 hk9.size) h
                have hkp10 : ∀ {u : World}, Kept (fun k => k = r7) w9.drew u → Kept (fun k => k = r1) wr u := fun {u} h => (hk9.on (drew_below w9)).past h (fun i e => by rw [e]; exact hl7'')
                have hown10 : ∀ {u : World}, Kept (fun k => k = r7) w9.drew u → kSm.own 110 u (Own w5.heap.size (.slice vx acc.length vc)) w5.heap.size (.slice vx acc.length vc) acc := fun {u} h => kSm.own_keep HO.out (hkp10 h) (fun k e => by omega)
                go_region_law ((refine step_call rfl 99 _ _ rfl #[.agg #[.bool il1, .string (bs wd1), .slice a8 ks1.length c8, .int .i64 q1], .pointer (some ⟨r7, 0, none⟩)] (by simp [go_sem, Act.eval]) ?_; refine (hS B _ r7 kk qq il1 wd1 ks1 q1 a8 c8 hr79 hszk).mono ?_; rintro e w10 hG10; obtain rfl := hG10.bad _ _ HST.out; refine (fun (_ : wpAny Tryz.prog Region.Mode.any #[] (fun _ _ _ => True) 0 #[] ⟨#[], []⟩ w9) => ⟨rfl, .ofBad (by rw [HB.out]; rfl) (below_past (Below.then hR9.below (drew_below w9)) hG10.kept fun i e => by rw [e]; omega)⟩) ?_))
                all_goals trivial
              | ok x =>
                have HST : Hid ((rdSt qq (.mk il1 wd1 ks1 q1 :: kk)).bind (fun x => Res.ok (x, ([] : List Nd))) = .ok (x, [])) := by show _ = _; rw [hst]; rfl
                have HST0 : Hid (rdSt qq (.mk il1 wd1 ks1 q1 :: kk) = .ok x) := hst
                clear hst
                go_wp2_with (go_at_call_of 56 (Value.pointer (some ⟨r1, 0, none⟩)); refine (next_ok true [] (.mk il1 wd1 ks1 q1 :: kk) qq hR.rs).mono ?_; rintro e w6 ⟨a6, c6, rfl, hrow6, hcap6, hR6, hK6⟩)
                go_wp2_with (go_at_call 55; refine (enter_ok (B := B) (.mk il1 wd1 ks1 q1 :: kk) qq a6 c6 hR6.glob.le hR6.glob hw6 hrow6 hcap6).mono ?_; rintro e w7 ⟨r7, rfl, hr7, hR7, hb7⟩)
                go_wp2_with (go_at_call_of 56 (Value.pointer (some ⟨r7, 0, none⟩)); refine (next_ok il1 wd1 ks1 q1 hR7).mono ?_; rintro e w8 ⟨a8, c8, rfl, hrow8, hcap8, hR8, hK8⟩)
                go_wp2_with (go_at_call 94; refine (text_bs il1 wd1 ks1 q1 _ _ _).mono ?_; rw [HT.out]; simp only [endOf, sval]; rintro e w9 ⟨rfl, hb9⟩; have hn9 := below_box hb9; obtain ⟨b90, b91, b92, b93⟩ := cells4 hn9)
                have hl7 : w.heap.size + 2 < r7 := Nat.lt_of_lt_of_le (Nat.lt_of_lt_of_le hR.lt hK6.size) hr7
                have hl7' : r1 < r7 := Nat.lt_of_lt_of_le (Nat.lt_of_lt_of_le hR.rs.lt hK6.size) hr7
                have hl7'' : wr.heap.size ≤ r7 := Nat.le_trans hK6.size hr7
                have hR9 := (((hR.step hK6 hR6).on hb7).other hK8 (by omega) (by omega) (by omega) (fun i e => by omega)).on (below_out hb9)
                have hx5 := HX5.out
                have hl1 : r1 < w5.heap.size := HL1.out
                have hw5 := HW5.out
                have hk9 : Kept (fun k => k = r1) wr w9 := ((hK6.on hb7).past hK8 (fun i e => by rw [e]; exact hl7'')).on (below_out hb9)
                have hr79 := (hR8.below (below_out hb9)).below (drew_below w9)
                have c9 := hR9.cell
                have z9 := hR9.free
                have HNR : Hid (∀ k, k < w5.heap.size → ¬ (Value.slice vx acc.length vc).ownBlock = some k) := fun k hk e => by have := (HV.out k e).1; omega
                have HGE : Hid (∀ k, (Value.slice vx acc.length vc).ownBlock = some k → w.heap.size ≤ k) := fun k e => by have := (HV.out k e).1; omega
                have hsz10 : ∀ {u : World}, w9.drew.heap.size ≤ u.heap.size → w5.heap.size ≤ u.heap.size := fun {u} h => Nat.le_trans (Nat.le_trans hw5 hk9.size) h
                have hkp10 : ∀ {u : World}, Kept (fun k => k = r7) w9.drew u → Kept (fun k => k = r1) wr u := fun {u} h => (hk9.on (drew_below w9)).past h (fun i e => by rw [e]; exact hl7'')
                have hown10 : ∀ {u : World}, Kept (fun k => k = r7) w9.drew u → kSm.own 110 u (Own w5.heap.size (.slice vx acc.length vc)) w5.heap.size (.slice vx acc.length vc) acc := fun {u} h => kSm.own_keep HO.out (hkp10 h) (fun k e => by omega)
                go_region_law ((first | (refine step_call rfl 99 _ _ rfl #[.agg #[.bool il1, .string (bs wd1), .slice a8 ks1.length c8, .int .i64 q1], .pointer (some ⟨r7, 0, none⟩)] (by simp [go_sem, Act.eval]) ?_; refine (hS B _ r7 kk qq il1 wd1 ks1 q1 a8 c8 hr79 hszk).mono ?_; rintro e w10 hG10; obtain ⟨hRs10, v10, rfl, cs, rfl, hC⟩ := hG10.ok _ _ HST.out; have hR10 := (hR9.on (drew_below w9)).other hG10.kept (by omega) (by omega) (by omega) (fun i e => by omega); have c10 := hR10.cell; have z10 := hR10.free; have s10 := hR10.lt; have s10' : w.heap.size + 1 + 1 < w10.heap.size := hR10.lt; have hl18 : cs.length = 18 := smC_len hC; have hfill := stmt_fill hl18; have hw10 : w5.heap.size ≤ w10.heap.size := hsz10 hG10.kept.size; obtain ⟨xs, ho, hlay⟩ := hown10 hG10.kept) | (refine step_append_lies _ (by rfl) _ _ _ (by rfl) w5.heap.size 110 i0 _ 18 232 Tryz.underlying41 hi0 hz0 hz1 hz2 rfl (by omega) (.slice vx acc.length vc) acc.length xs (by rfl) (ho.alloc _) ⟨w10.heap.size, 0, none⟩ 1 1 cs (by rfl) (smC_len hC) (World.news_of_block (cs := cs.toArray) (t := 110) (fr := (0, 0)) (heap_alloc_new w10 _)) (smC_one hC) (by omega) (by unfold maxLen; omega) (by omega) (by simp; omega) (w10.heap.size + 1) (by simp) ?_; intro g cap w11 hown11 hgrow hat hltg; have hk11 := (Kept.alloc w10 (.cells cs.toArray 110) (fun k => (Value.slice vx acc.length vc).ownBlock = some k)).trans (Kept.of_grown hgrow); have hR11 := hR10.other hk11 (HNR.out _ (by omega)) (HNR.out _ (by omega)) (HNR.out _ (by omega)) (fun i e => HGE.out i e); have c11 := hR11.cell; have z11 := hR11.free)))
                all_goals go_wp2_with fail
                all_goals
                  obtain ⟨hnew, hk12⟩ := kSm.append_all (x := x) hlay (smC_mono (fun b hb hl => ⟨⟨Nat.le_trans (hsz10 (Nat.le_refl _)) hb, fun e => by have h1 := (HV.out b e).2; have h2 : w9.heap.size ≤ b := hb; have h3 := hk9.size; omega⟩, rfl⟩) hC) hown11 hgrow hat
                  have hR12 := (hR11.step (Kept.refl _ _) (hR11.rs)).set 3 (.slice (some ⟨g, 0, none⟩) (acc.length + 1) cap) (xc' := #[.string (bs t3), .slice pa4 pl.length pc4, .bool t5, .slice (some ⟨g, 0, none⟩) (acc.length + 1) cap, .int .i64 0, .int .u32 0, .int .i64 0, .string ⟨#[]⟩, .slice none 0 0]) rfl
                  refine ⟨⟨acc ++ [x], l6, .slice (some ⟨g, 0, none⟩) (acc.length + 1) cap, by simp; omega, by have := hk11.size; simp [World.setCell]; omega, ?_, hR12, ?_, ?_⟩, ?_⟩
                  · exact kSm.own_keep (by simpa using hnew) (Kept.set w11 (w.heap.size + 2) 3 _) (fun k e => by omega)
                  · exact kPa.row_mono (by show 0 < 3; omega) HPR.out fun b hb hl => ⟨hb, by rw [setCell_other (by omega), hk11.block b (Nat.lt_of_lt_of_le hl (hkp10 hG10.kept).size) (HNR.out b hb.2.1), (hkp10 hG10.kept).block b hl hb.2.2]⟩
                  · rw [HS3.out, HST0.out]
                    simp only [Res.bind_ok]
                    cases rdBody q l6 <;> simp
                  · rw [hR12.rs.left, hR.rs.left]; simp
end Go.Proofs.YtbpdhegfdmppgaaGreatDoor

/- CONTRACT of readFunc, for all nodes. -/
namespace Go.Proofs.YtbpdhegfdmppgaaGreatDoor
open Go.ChangeShapes Go.WideShapes Go.ChangeAt Go.RowKit

theorem Gives.of_bad {α : Type} {V : World → (Nat → Prop) → Value → α → Prop} {w : World} {res : Res α} {x y : Int} {f : FuncId} {args : Array Value} (h : res = .bad x y) (hc : Calls Tryz.prog f args w fun e w' => e = .panicked (flt x y) ∧ Below w.heap.size w w') : Calls Tryz.prog f args w (Gives V w res) := by
  refine hc.mono ?_
  rintro e w' ⟨rfl, hb⟩
  exact .ofBad h hb
theorem func_odd {w : World} (il : Bool) (wd : List UInt8) (n : Nat) (q : Int) (a : Option Addr) (c : Nat) (h : (!il || !wd.isEmpty) = true) :
    Calls Tryz.prog 63 #[.agg #[.bool il, .string (bs wd), .slice a n c, .int .i64 q]] w fun e w' => e = .panicked (flt 6 q) ∧ Below w.heap.size w w' := by
  go_enter Tryz.func63, Tryz.ntmps63
  go_wp2_with (go_at_call 55; refine (enter_bad _ _ _ _ _ _ h).mono ?_; rintro e w1 ⟨rfl, hb1⟩)
  exact ⟨rfl, rfl, Below.then (Below.then (two_below w _ _) (one_below _ _)) hb1⟩

theorem func_any {B : Nat} {w : World} (il : Bool) (wd : List UInt8) (ks : List Nd) (q : Int) (a : Option Addr) (c : Nat) (hg : Glob B w) (hw : (Nd.mk il wd ks q).wok) (hrow : Row (fun b => b < B) w a ks) (hc : ks.length ≤ c) (hs : (Nd.mk il wd ks q).sz ≤ 1000000000) :
    Calls Tryz.prog 63 #[.agg #[.bool il, .string (bs wd), .slice a ks.length c, .int .i64 q]] w (Gives FuV w (rdFunc (.mk il wd ks q))) := by
  by_cases hent : (!il || !wd.isEmpty) = true
  · exact Gives.of_bad (by simp only [rdFunc, rdEnter, if_pos hent, Res.bind_bad]) (func_odd il wd ks.length q a c hent)
  · obtain ⟨hil, hwd⟩ : il = true ∧ wd = [] := by simpa using hent
    subst hil hwd
    clear hent
    have hE : rdEnter (.mk true [] ks q) = .ok (ks, q) := rfl
    have hsk : szL ks ≤ 1000000000 := by simp only [Nd.sz] at hs; omega
    cases h2 : rdBy (rdSkipOf [102, 110]) q ks with
    | bad x y => exact Gives.of_bad (by simp only [rdFunc, hE, h2, Res.bind_ok, Res.bind_bad]) (func_skip ks q a c hg hw.2 hrow hc x y h2)
    | ok y2 =>
      obtain ⟨⟨⟩, l2⟩ := y2
      have z2 := (rdBy_sz h2).1
      cases h3 : rdBy rdNameOf q l2 with
      | bad x y => exact Gives.of_bad (by simp only [rdFunc, hE, h2, h3, Res.bind_ok, Res.bind_bad]) (func_name ks q a c hg hw.2 hrow hc x y l2 h2 h3)
      | ok y3 =>
        obtain ⟨t3, l3⟩ := y3
        have z3 := (rdBy_sz h3).1
        cases l3 with
        | nil => exact Gives.of_bad (by simp only [rdFunc, hE, h2, h3, Res.bind_ok, rdBy_nil, Res.bind_bad]) (func_noparams ks q a c hg hw.2 hrow hc l2 h2 t3 6 q rfl rfl h3)
        | cons nd l4 =>
          obtain ⟨il, wd, ps, qp⟩ := nd
          have z4 : szL l4 ≤ szL l2 := by simp only [szL] at z3; omega
          by_cases hent : (!il || !wd.isEmpty) = true
          · have hx : rdEnter (.mk il wd ps qp) = .bad 6 qp := by rw [rdEnter, if_pos hent]
            exact Gives.of_bad (by simp only [rdFunc, hE, h2, h3, Res.bind_ok, rdBy_bad _ _ hx, Res.bind_bad]) (func_oddparams ks q a c hg hw.2 hrow hc l2 h2 t3 il wd ps qp l4 6 qp rfl rfl h3 hent)
          · obtain ⟨hil, hwd⟩ : il = true ∧ wd = [] := by simpa using hent
            subst hil hwd
            clear hent
            have hx : rdEnter (.mk true [] ps qp) = .ok (ps, qp) := rfl
            cases h4 : rdParams 0 ps with
            | bad x y => exact Gives.of_bad (by simp only [rdFunc, hE, h2, h3, Res.bind_ok, rdBy_ok _ _ hx, h4, Res.bind_bad]) (func_params ks q a c hg hw.2 hrow hc l2 h2 t3 ps qp l4 h3 x y (by show _ = _; rw [h4]; rfl))
            | ok pl =>
              have H4 : Hid (((rdParams 0 ps).bind fun x => Res.ok (x, ([] : List Nd))) = .ok (pl, [])) := by show _ = _; rw [h4]; rfl
              cases h5 : rdBy rdLabelOf q l4 with
              | bad x y => exact Gives.of_bad (by simp only [rdFunc, hE, h2, h3, Res.bind_ok, rdBy_ok _ _ hx, h4, h5, Res.bind_bad]) (func_label ks q a c hg hw.2 hrow hc l2 h2 t3 ps qp l4 h3 pl H4 x y h5)
              | ok y5 =>
                obtain ⟨t5, l5⟩ := y5
                have z5 := (rdBy_sz h5).1
                have e : rdFunc (.mk true [] ks q) = (rdBody q l5).bind fun z => (rdEnd z.2.2).bind fun _ => .ok ⟨t3, pl, t5, z.1, z.2.1⟩ := by simp only [rdFunc, hE, h2, h3, Res.bind_ok, rdBy_ok _ _ hx, h4, h5]
                rw [e]
                exact func_body ks q a c hg hw.2 hrow hc (stmts_all 1000000000 (Nat.le_refl _)).2 (Nat.le_refl _) l2 h2 t3 ps qp l4 h3 pl H4 t5 l5 h5 (by omega)
end Go.Proofs.YtbpdhegfdmppgaaGreatDoor

/- CONTRACT of readUnit ahead of its functions: what may be wrong there. -/
namespace Go.Proofs.YtbpdhegfdmppgaaGreatDoor
open Go.ChangeShapes Go.WideShapes Go.ChangeAt Go.RowKit

theorem Rh.boxed {B : Nat} {w : World} {l : List Nd} {a : Option Addr} {c : Nat} (T : TypeId) (rc xc : Array Value) (hg : Glob B w) (hw : wokL l) (hrow : Row (fun b => b < B) w a l) (hc : l.length ≤ c) :
    Rh B w (((w.alloc (.cells rc T)).alloc (.cells xc T)).alloc (.cells #[.slice a l.length c, .int .i64 0] 97)) (w.heap.size + 2) l 0 T w.heap.size rc (w.heap.size + 1) xc where
  below := Below.then (two_below w _ _) (one_below _ _)
  rs := by
    have hb := Below.then (two_below w (.cells rc T) (.cells xc T)) (one_below _ (.cells #[.slice a l.length c, .int .i64 0] 97))
    refine ⟨by have := hg.le; omega, hg.below hb, hw, a, c, ?_, hrow.mono fun b hb' hlt => ⟨hb', hb.block b hlt⟩, hc⟩
    have := heap_alloc_new ((w.alloc (.cells rc T)).alloc (.cells xc T)) (.cells #[.slice a l.length c, .int .i64 0] 97)
    simpa using this
  res := at_old (two_at w _ _).1
  x := at_old (two_at w _ _).2
  hR := Nat.le_refl _
  hX := by omega
  hr := by omega
  hB := hg.le
  ne := by omega
  n1 := by omega
  n2 := by omega

set_option maxHeartbeats 1600000 in
theorem unit_none {B : Nat} {w : World} (l : List Nd) (a : Option Addr) (c : Nat) (hg : Glob B w) (hw : wokL l) (hrow : Row (fun b => b < B) w a l) (hc : l.length ≤ c) (x y : Int) (hx : x = 6) (hy : y = 0) (hl : l = []) :
    Calls Tryz.prog 29 #[.slice a l.length c] w fun e w' => e = .panicked (flt x y) ∧ Below w.heap.size w w' := by
  subst hl hx hy
  have hB := hg.le
  have hf0 := Rh.boxed 30 #[.string ⟨#[]⟩, .slice none 0 0, .slice none 0 0] #[.string ⟨#[]⟩, .slice none 0 0, .slice none 0 0] hg hw hrow hc
  go_enter Tryz.func29, Tryz.ntmps29
  go_wp2_with (go_at_call 56; refine (next_bad hf0.rs).mono ?_; rintro e w1 ⟨rfl, hb1⟩)
  exact ⟨rfl, rfl, Below.then hf0.below hb1⟩
set_option maxHeartbeats 1600000 in
theorem unit_odd {B : Nat} {w : World} (l : List Nd) (a : Option Addr) (c : Nat) (hg : Glob B w) (hw : wokL l) (hrow : Row (fun b => b < B) w a l) (hc : l.length ≤ c) (il : Bool) (wd : List UInt8) (ks : List Nd) (q : Int) (l1 : List Nd) (hl : l = .mk il wd ks q :: l1) (x y : Int) (hx : x = 6) (hy : q = y) (hent : (!il || !wd.isEmpty) = true) :
    Calls Tryz.prog 29 #[.slice a l.length c] w fun e w' => e = .panicked (flt x y) ∧ Below w.heap.size w w' := by
  subst hl hx hy
  have hB := hg.le
  have hf0 := Rh.boxed 30 #[.string ⟨#[]⟩, .slice none 0 0, .slice none 0 0] #[.string ⟨#[]⟩, .slice none 0 0, .slice none 0 0] hg hw hrow hc
  simp only [List.length_cons] at hf0
  go_enter Tryz.func29, Tryz.ntmps29
  go_wp2_with (go_at_call 56; refine (next_ok il wd ks q hf0.rs).mono ?_; rintro e w1 ⟨a1, c1, rfl, hrow1, hcap1, hR1, hK1⟩)
  go_wp2_with (go_at_call 55; refine (enter_bad _ _ _ _ _ _ hent).mono ?_; rintro e w2 ⟨rfl, hb2⟩)
  exact ⟨rfl, rfl, Below.then (hf0.step hK1 hR1).below hb2⟩
set_option maxHeartbeats 1600000 in
theorem unit_skip {B : Nat} {w : World} (l : List Nd) (a : Option Addr) (c : Nat) (hg : Glob B w) (hw : wokL l) (hrow : Row (fun b => b < B) w a l) (hc : l.length ≤ c) (ks : List Nd) (q : Int) (l1 : List Nd) (hl : l = .mk true [] ks q :: l1) (x y : Int) (HR3 : Hid (rdBy (rdSkipOf [117, 110, 105, 116]) q ks = .bad x y)) :
    Calls Tryz.prog 29 #[.slice a l.length c] w fun e w' => e = .panicked (flt x y) ∧ Below w.heap.size w w' := by
  subst hl
  have hB := hg.le
  have hf0 := Rh.boxed 30 #[.string ⟨#[]⟩, .slice none 0 0, .slice none 0 0] #[.string ⟨#[]⟩, .slice none 0 0, .slice none 0 0] hg hw hrow hc
  simp only [List.length_cons] at hf0
  go_enter Tryz.func29, Tryz.ntmps29
  go_wp2_with (go_at_call 56; refine (next_ok true [] ks q hf0.rs).mono ?_; rintro e w1 ⟨a1, c1, rfl, hrow1, hcap1, hR1, hK1⟩)
  go_wp2_with (go_at_call 55; refine (enter_ok (B := B) ks q a1 c1 hR1.glob.le hR1.glob hf0.rs.wok.1.2 hrow1 hcap1).mono ?_; rintro e w2 ⟨r2, rfl, hr2, hR2, hb2⟩; have hl2 := Nat.lt_of_lt_of_le (Nat.lt_of_lt_of_le hf0.rs.lt hK1.size) hr2; have hf2 := (hf0.step hK1 hR1).on hb2; have c2 := hf2.cell; have z2 := hf2.free; have s2 := hf2.lt; have rs2 := hf2.rlt)
  go_wp2_with (go_at_call 57; refine (skip_tk [117, 110, 105, 116] hR2).mono ?_; rintro e w3 hG3; obtain rfl := hG3.bad _ _ HR3.out)
  exact ⟨rfl, rfl, below_past hf2.below hG3.kept fun i e => by omega⟩
set_option maxHeartbeats 1600000 in
theorem unit_name {B : Nat} {w : World} (l : List Nd) (a : Option Addr) (c : Nat) (hg : Glob B w) (hw : wokL l) (hrow : Row (fun b => b < B) w a l) (hc : l.length ≤ c) (ks : List Nd) (q : Int) (l1 : List Nd) (hl : l = .mk true [] ks q :: l1) (l3 : List Nd) (HR3 : Hid (rdBy (rdSkipOf [117, 110, 105, 116]) q ks = .ok ((), l3))) (x y : Int) (HR4 : Hid (rdBy rdNameOf q l3 = .bad x y)) :
    Calls Tryz.prog 29 #[.slice a l.length c] w fun e w' => e = .panicked (flt x y) ∧ Below w.heap.size w w' := by
  subst hl
  have hB := hg.le
  have hf0 := Rh.boxed 30 #[.string ⟨#[]⟩, .slice none 0 0, .slice none 0 0] #[.string ⟨#[]⟩, .slice none 0 0, .slice none 0 0] hg hw hrow hc
  simp only [List.length_cons] at hf0
  go_enter Tryz.func29, Tryz.ntmps29
  go_wp2_with (go_at_call 56; refine (next_ok true [] ks q hf0.rs).mono ?_; rintro e w1 ⟨a1, c1, rfl, hrow1, hcap1, hR1, hK1⟩)
  go_wp2_with (go_at_call 55; refine (enter_ok (B := B) ks q a1 c1 hR1.glob.le hR1.glob hf0.rs.wok.1.2 hrow1 hcap1).mono ?_; rintro e w2 ⟨r2, rfl, hr2, hR2, hb2⟩; have hl2 := Nat.lt_of_lt_of_le (Nat.lt_of_lt_of_le hf0.rs.lt hK1.size) hr2; have hf2 := (hf0.step hK1 hR1).on hb2; have c2 := hf2.cell; have z2 := hf2.free; have s2 := hf2.lt; have rs2 := hf2.rlt)
  go_wp2_with (go_at_call 57; refine (skip_tk [117, 110, 105, 116] hR2).mono ?_; rintro e w3 hG3; obtain ⟨hR3, v3, rfl, rfl⟩ := hG3.ok _ _ HR3.out; have hf3 := hf2.other hG3.kept (by omega) (by omega) (by omega) (fun i e => by omega); clear c2 z2; have c3 := hf3.cell; have z3 := hf3.free; have s3 := hf3.lt; have rs3 := hf3.rlt)
  go_wp2_with (go_at_call 58; refine (name_tk hR3).mono ?_; rintro e w4 hG4; obtain rfl := hG4.bad _ _ HR4.out)
  exact ⟨rfl, rfl, below_past hf3.below hG4.kept fun i e => by omega⟩
set_option maxHeartbeats 1600000 in
theorem unit_end {B : Nat} {w : World} (l : List Nd) (a : Option Addr) (c : Nat) (hg : Glob B w) (hw : wokL l) (hrow : Row (fun b => b < B) w a l) (hc : l.length ≤ c) (ks : List Nd) (q : Int) (l1 : List Nd) (hl : l = .mk true [] ks q :: l1) (l3 : List Nd) (HR3 : Hid (rdBy (rdSkipOf [117, 110, 105, 116]) q ks = .ok ((), l3))) (t4 : List UInt8) (il5 : Bool) (wd5 : List UInt8) (ks5 : List Nd) (q5 : Int) (l5 : List Nd) (x y : Int) (hx : x = 6) (hy : q5 = y) (HR4 : Hid (rdBy rdNameOf q l3 = .ok (t4, .mk il5 wd5 ks5 q5 :: l5))) :
    Calls Tryz.prog 29 #[.slice a l.length c] w fun e w' => e = .panicked (flt x y) ∧ Below w.heap.size w w' := by
  subst hl hx hy
  have hB := hg.le
  have hf0 := Rh.boxed 30 #[.string ⟨#[]⟩, .slice none 0 0, .slice none 0 0] #[.string ⟨#[]⟩, .slice none 0 0, .slice none 0 0] hg hw hrow hc
  simp only [List.length_cons] at hf0
  go_enter Tryz.func29, Tryz.ntmps29
  go_wp2_with (go_at_call 56; refine (next_ok true [] ks q hf0.rs).mono ?_; rintro e w1 ⟨a1, c1, rfl, hrow1, hcap1, hR1, hK1⟩)
  go_wp2_with (go_at_call 55; refine (enter_ok (B := B) ks q a1 c1 hR1.glob.le hR1.glob hf0.rs.wok.1.2 hrow1 hcap1).mono ?_; rintro e w2 ⟨r2, rfl, hr2, hR2, hb2⟩; have hl2 := Nat.lt_of_lt_of_le (Nat.lt_of_lt_of_le hf0.rs.lt hK1.size) hr2; have hf2 := (hf0.step hK1 hR1).on hb2; have c2 := hf2.cell; have z2 := hf2.free; have s2 := hf2.lt; have rs2 := hf2.rlt)
  go_wp2_with (go_at_call 57; refine (skip_tk [117, 110, 105, 116] hR2).mono ?_; rintro e w3 hG3; obtain ⟨hR3, v3, rfl, rfl⟩ := hG3.ok _ _ HR3.out; have hf3 := hf2.other hG3.kept (by omega) (by omega) (by omega) (fun i e => by omega); clear c2 z2; have c3 := hf3.cell; have z3 := hf3.free; have s3 := hf3.lt; have rs3 := hf3.rlt)
  go_wp2_with (go_at_call 58; refine (name_tk hR3).mono ?_; rintro e w4 hG4; obtain ⟨hR4, v4, rfl, rfl⟩ := hG4.ok _ _ HR4.out; have hf4 := hf3.other hG4.kept (by omega) (by omega) (by omega) (fun i e => by omega); clear c3 z3; have c4 := hf4.cell; have z4 := hf4.free; have s4 := hf4.lt; have rs4 := hf4.rlt; have hg4 := hf4.set 0 (.string (bs t4)) (xc' := #[.string (bs t4), .slice none 0 0, .slice none 0 0]) rfl; have hR4' := hR4.keep (Kept.set w4 (w.heap.size + 1) 0 (.string (bs t4))) (fun k e => by omega) (by omega))
  go_wp2_with (go_at_call 59; refine (end_rs hR4').mono ?_; simp only [rdEnd, endOf, Nd.pos]; rintro e w5 ⟨rfl, hb5⟩)
  exact ⟨rfl, rfl, Below.then hg4.below hb5⟩
end Go.Proofs.YtbpdhegfdmppgaaGreatDoor

/- CONTRACT of readUnit from its functions on, where it has no import. -/
namespace Go.Proofs.YtbpdhegfdmppgaaGreatDoor
open Go.ChangeShapes Go.WideShapes Go.ChangeAt Go.RowKit

theorem funcs_info : (Tryz.prog.info? 47).map (fun i => (i.zero, i.size, i.bytes)) = some (some (.agg #[.string ⟨#[]⟩, .slice none 0 0, .bool false, .slice none 0 0, .int .i64 0, .int .u32 0, .int .i64 0, .string ⟨#[]⟩, .slice none 0 0]), 9, 136) := by kernel_rfl
theorem func_fill {cs : List Value} (h : cs.length = 9) : List.foldl (fun (a : Array Value) (x : Value × Nat) => a.setIfInBounds x.2 x.1) #[.string ⟨#[]⟩, .slice none 0 0, .bool false, .slice none 0 0, .int .i64 0, .int .u32 0, .int .i64 0, .string ⟨#[]⟩, .slice none 0 0] cs.zipIdx = cs.toArray :=
  fold_fill cs [] [.string ⟨#[]⟩, .slice none 0 0, .bool false, .slice none 0 0, .int .i64 0, .int .u32 0, .int .i64 0, .string ⟨#[]⟩, .slice none 0 0] h
theorem info_unit : (Tryz.prog.info? 30).map (·.size) = some 3 := by kernel_rfl
theorem load_unit {W : World} {b : Nat} {cs : Array Value} {t : TypeId} {f : Nat × Nat} (h : W.heap[b]? = some (.cells cs t f)) (hs : cs.size = 3) : (loadVar 30 ⟨b, 0, none⟩).run Tryz.prog W = .ok (.agg cs) W :=
  run_loadVar_row W b t 30 cs f _ h Tryz.underlying30 rfl (by rw [hs]; exact info_unit)
theorem rdFuncs_nil (k : Nat) : rdFuncs k [] = .ok [] := by rw [rdFuncs]
theorem rdFuncs_cons (k : Nat) (n : Nd) (r : List Nd) : rdFuncs k (n :: r) = if 16 ≤ k then .bad 5 n.pos else (rdFunc n).bind fun f => (rdFuncs (k + 1) r).bind fun x => .ok (f :: x) := by rw [rdFuncs]
/-- The value of a unit. -/
def UnV (w : World) (S : Nat → Prop) (v : Value) (u : Un) : Prop := ∃ a1 c1 a2 c2, v = .agg #[.string (bs u.name), .slice a1 u.imports.length c1, .slice a2 u.funcs.length c2] ∧ u.imports.length ≤ c1 ∧ u.funcs.length ≤ c2 ∧ kStr.row w S a1 u.imports ∧ kFu.row w S a2 u.funcs

set_option maxHeartbeats 12800000 in
set_option maxRecDepth 20000 in
theorem unit_plain {B : Nat} {w : World} (l : List Nd) (a : Option Addr) (c : Nat) (hg : Glob B w) (hw : wokL l) (hrow : Row (fun b => b < B) w a l) (hc : l.length ≤ c) (ks : List Nd) (q : Int) (l1 : List Nd) (hl : l = .mk true [] ks q :: l1) (l3 : List Nd) (HR3 : Hid (rdBy (rdSkipOf [117, 110, 105, 116]) q ks = .ok ((), l3))) (t4 : List UInt8) (HR4 : Hid (rdBy rdNameOf q l3 = .ok (t4, []))) (HBG : Hid (begins [105, 109, 112, 111, 114, 116] l1 = false)) (hs1 : szL l1 ≤ 1000000000) :
    Calls Tryz.prog 29 #[.slice a l.length c] w (Gives UnV w ((rdFuncs 0 l1).bind fun fs => .ok ⟨t4, [], fs⟩)) := by
  subst hl
  obtain ⟨i0, hi0, hz0, hz1, hz2⟩ := info_parts funcs_info
  have hB := hg.le
  have hf0 := Rh.boxed 30 #[.string ⟨#[]⟩, .slice none 0 0, .slice none 0 0] #[.string ⟨#[]⟩, .slice none 0 0, .slice none 0 0] hg hw hrow hc
  simp only [List.length_cons] at hf0
  go_enter Tryz.func29, Tryz.ntmps29
  go_wp2_with (go_at_call 56; refine (next_ok true [] ks q hf0.rs).mono ?_; rintro e w1 ⟨a1, c1, rfl, hrow1, hcap1, hR1, hK1⟩)
  go_wp2_with (go_at_call 55; refine (enter_ok (B := B) ks q a1 c1 hR1.glob.le hR1.glob hf0.rs.wok.1.2 hrow1 hcap1).mono ?_; rintro e w2 ⟨r2, rfl, hr2, hR2, hb2⟩; have hl2 := Nat.lt_of_lt_of_le (Nat.lt_of_lt_of_le hf0.rs.lt hK1.size) hr2; have hf2 := (hf0.step hK1 hR1).on hb2; have c2 := hf2.cell; have z2 := hf2.free; have s2 := hf2.lt; have rs2 := hf2.rlt)
  go_wp2_with (go_at_call 57; refine (skip_tk [117, 110, 105, 116] hR2).mono ?_; rintro e w3 hG3; obtain ⟨hR3, v3, rfl, rfl⟩ := hG3.ok _ _ HR3.out; have hf3 := hf2.other hG3.kept (by omega) (by omega) (by omega) (fun i e => by omega); clear c2 z2; have c3 := hf3.cell; have z3 := hf3.free; have s3 := hf3.lt; have rs3 := hf3.rlt)
  go_wp2_with (go_at_call 58; refine (name_tk hR3).mono ?_; rintro e w4 hG4; obtain ⟨hR4, v4, rfl, rfl⟩ := hG4.ok _ _ HR4.out; have hf4 := hf3.other hG4.kept (by omega) (by omega) (by omega) (fun i e => by omega); clear c3 z3; have c4 := hf4.cell; have z4 := hf4.free; have s4 := hf4.lt; have rs4 := hf4.rlt; have hg4 := hf4.set 0 (.string (bs t4)) (xc' := #[.string (bs t4), .slice none 0 0, .slice none 0 0]) rfl; have hR4' := hR4.keep (Kept.set w4 (w.heap.size + 1) 0 (.string (bs t4))) (fun k e => by omega) (by omega))
  go_wp2_with (go_at_call 59; refine (end_rs hR4').mono ?_; simp only [rdEnd, endOf]; rintro e w5 ⟨rfl, hb5⟩; have hf5 := hg4.on hb5; have c5 := hf5.cell; have z5 := hf5.free; have s5 := hf5.lt; have rs5 := hf5.rlt)
  go_wp2_with (go_at_call 60; refine (begins_rs [105, 109, 112, 111, 114, 116] hf5.rs).mono ?_; rw [HBG.out]; rintro e w6 ⟨rfl, hb6⟩; have hf6 := hf5.on hb6; clear c5 z5; have c6 := hf6.cell; have z6 := hf6.free; have s6 := hf6.lt; have rs6 := hf6.rlt)
  have hlim : w.heap.size + 2 < w6.heap.size := hf6.rs.lt
  go_loopw [] (fun wr => ∃ (acc : List Fu) (l' : List Nd) (v : Value), acc.length ≤ 16 ∧ w6.heap.size ≤ wr.heap.size ∧ kFu.own 47 wr (Own w6.heap.size v) w6.heap.size v acc ∧ Rh B w wr (w.heap.size + 2) l' 0 30 w.heap.size #[.string ⟨#[]⟩, .slice none 0 0, .slice none 0 0] (w.heap.size + 1) #[.string (bs t4), .slice none 0 0, v] ∧ szL l' ≤ 1000000000 ∧
    (rdFuncs 0 l1).bind (fun fs => Res.ok (Un.mk t4 [] fs)) = ((rdFuncs acc.length l').bind fun x => .ok (acc ++ x)).bind fun fs => .ok ⟨t4, [], fs⟩) (fun wr => leftAt wr (w.heap.size + 2))
  case atStart => exact ⟨[], l1, .slice none 0 0, Nat.zero_le _, Nat.le_refl _, kFu.own_none _ _ _ _, hf6, hs1, by rw [List.length_nil]; cases rdFuncs 0 l1 <;> rfl⟩
  case round =>
    obtain ⟨acc, l', v, hk, hwl, hown, hR, hszl, hsp⟩ := hrel
    have HS : Hid _ := hsp
    clear hsp
    obtain ⟨vx, vc, rfl⟩ := kFu.own_form hown
    have HO : Hid (kFu.own 47 wr (Own w6.heap.size (.slice vx acc.length vc)) w6.heap.size (.slice vx acc.length vc) acc) := hown
    clear hown c6 z6
    have HV : Hid (∀ g, (Value.slice vx acc.length vc).ownBlock = some g → w6.heap.size ≤ g ∧ g < wr.heap.size) := kFu.own_lt HO.out
    have HNR : Hid (∀ k, k < w6.heap.size → ¬ (Value.slice vx acc.length vc).ownBlock = some k) := fun k hk e => by have := (HV.out k e).1; omega
    have HGE : Hid (∀ k, (Value.slice vx acc.length vc).ownBlock = some k → w.heap.size ≤ k) := fun k e => by have := (HV.out k e).1; omega
    have hmore := more_rs hR.rs
    have cr := hR.cell
    have zr := hR.free
    have sr := hR.lt
    cases l' with
    | nil =>
      go_wp2_with (first | (go_at_call 62; refine hmore.mono ?_; rintro e w7 ⟨rfl, hq⟩; have hq' := hq.symm; subst hq') | (refine wpList_load_row rfl 30 (.tmp 3) rfl (w.heap.size + 1) rfl 30 #[.string (bs t4), .slice none 0 0, .slice vx acc.length vc] (0, 0) _ hR.x Tryz.underlying30 rfl info_unit ?_) | (refine wpList_store_row rfl 30 (.tmp 2) _ rfl w.heap.size #[.string (bs t4), .slice none 0 0, .slice vx acc.length vc] rfl rfl 30 #[.string ⟨#[]⟩, .slice none 0 0, .slice none 0 0] hR.res info_unit rfl (by simp [Value.oneCell']) ?_))
      have hEn := setRow_at (cs := #[.string (bs t4), .slice none 0 0, .slice vx acc.length vc]) hR.res
      have hKw := setRow_kept (b := w.heap.size) #[.string (bs t4), .slice none 0 0, .slice vx acc.length vc] (Below.kept hR.below (fun _ => False)) (Nat.le_refl _)
      have hKb := setRow_in wr w.heap.size #[.string (bs t4), .slice none 0 0, .slice vx acc.length vc]
      generalize World.setRow _ _ _ = W at hEn hKw hKb ⊢
      refine bodyPost_ret_by (results_row Tryz.results29 rfl (load_unit hEn rfl)) rfl ?_
      obtain ⟨xa, xc, hxe, hxr, hxc⟩ := kFu.own_rd (kFu.own_keep HO.out hKb (fun k e => by omega)) (T := fun b => w.heap.size ≤ b) (fun b hb => by have := hb.1; omega) (fun g hg => by have := (HV.out g hg).1; omega)
      cases hxe
      exact .ofOk (x := Un.mk t4 [] acc) (by rw [HS.out, rdFuncs_nil]; simp) (none_below hKw) ⟨none, 0, _, _, rfl, Nat.le_refl _, hxc, trivial, hxr⟩
    | cons nd l6 =>
      obtain ⟨il, wd, ks9, q9⟩ := nd
      have hwok := hR.rs.wok.1
      have hsz9 : (Nd.mk il wd ks9 q9).sz ≤ 1000000000 := by simp only [szL] at hszl; omega
      have hsz6 : szL l6 ≤ 1000000000 := by simp only [szL] at hszl; omega
      have hdec : decide (0 < (Nd.mk il wd ks9 q9 :: l6).length) = true := by simp
      rw [hdec] at hmore
      clear hdec hszl
      have hRd := (hR.on (drew_below wr)).rs
      by_cases h16 : 16 ≤ acc.length
      · have HB : Hid ((rdFuncs 0 l1).bind (fun fs => Res.ok (Un.mk t4 [] fs)) = .bad 5 q9) := by show _ = _; rw [HS.out, rdFuncs_cons, if_pos h16]; rfl
        go_wp2_with (go_at_call 62; refine hmore.mono ?_; rintro e w7 ⟨rfl, hq⟩; have hq' := hq.symm; subst hq')
        go_region_law ((refine step_call rfl 64 _ _ rfl #[.pointer (some ⟨w.heap.size + 2, 0, none⟩), .int .i64 acc.length, .int .i64 16] (by simp [go_sem, Act.eval]) ?_; refine (nextOf_long il wd ks9 q9 acc.length 16 h16 hRd).mono ?_; rintro e w8 ⟨rfl, hK8⟩; refine (fun (_ : wpAny Tryz.prog Region.Mode.any #[] (fun _ _ _ => True) 0 #[] ⟨#[], []⟩ wr) => ⟨rfl, .ofBad (by rw [HB.out]) (none_below (((Below.kept (Below.then hR.below (drew_below wr)) (fun _ => False))).past hK8 (fun i e => by omega)))⟩) ?_))
        all_goals trivial
      · have HS2 : Hid ((rdFuncs 0 l1).bind (fun fs => Res.ok (Un.mk t4 [] fs)) = (((rdFunc (.mk il wd ks9 q9)).bind fun f => (rdFuncs (acc.length + 1) l6).bind fun x => .ok (f :: x)).bind fun x => .ok (acc ++ x)).bind fun fs => .ok ⟨t4, [], fs⟩) := by show _ = _; rw [HS.out, rdFuncs_cons, if_neg h16]
        clear HS
        cases hrf : rdFunc (.mk il wd ks9 q9) with
        | bad x y =>
          have HRF : Hid (rdFunc (.mk il wd ks9 q9) = .bad x y) := hrf
          have HB : Hid ((rdFuncs 0 l1).bind (fun fs => Res.ok (Un.mk t4 [] fs)) = .bad x y) := by show _ = _; rw [HS2.out, hrf]; rfl
          clear hrf
          go_wp2_with (go_at_call 62; refine hmore.mono ?_; rintro e w7 ⟨rfl, hq⟩; have hq' := hq.symm; subst hq')
          go_region_law ((first | (refine step_call rfl 64 _ _ rfl #[.pointer (some ⟨w.heap.size + 2, 0, none⟩), .int .i64 acc.length, .int .i64 16] (by simp [go_sem, Act.eval]) ?_; refine (nextOf_ok il wd ks9 q9 acc.length 16 (by omega) hRd).mono ?_; rintro e w8 ⟨a8, c8, rfl, hrow8, hcap8, hR8, hK8⟩; have hf8 := (hR.on (drew_below wr)).step hK8 hR8; have c8' := hf8.cell; have z8' := hf8.free; have s8' := hf8.lt; have s8'' : w.heap.size + 1 < w8.heap.size := hf8.lt) | (refine step_call rfl 63 _ _ rfl #[.agg #[.bool il, .string (bs wd), .slice a8 ks9.length c8, .int .i64 q9]] (by simp [go_sem, Act.eval]) ?_; refine (func_any il wd ks9 q9 a8 c8 hR8.glob hwok hrow8 hcap8 (by omega)).mono ?_; rintro e w9 hG9; obtain rfl := hG9.bad _ _ HRF.out; refine (fun (_ : wpAny Tryz.prog Region.Mode.any #[] (fun _ _ _ => True) 0 #[] ⟨#[], []⟩ wr) => ⟨rfl, .ofBad (by rw [HB.out]) (Below.then hf8.below hG9.below)⟩) ?_)))
          all_goals trivial
        | ok x =>
          have HRF : Hid (rdFunc (.mk il wd ks9 q9) = .ok x) := hrf
          clear hrf
          go_wp2_with (go_at_call 62; refine hmore.mono ?_; rintro e w7 ⟨rfl, hq⟩; have hq' := hq.symm; subst hq')
          go_region_law ((first | (refine step_call rfl 64 _ _ rfl #[.pointer (some ⟨w.heap.size + 2, 0, none⟩), .int .i64 acc.length, .int .i64 16] (by simp [go_sem, Act.eval]) ?_; refine (nextOf_ok il wd ks9 q9 acc.length 16 (by omega) hRd).mono ?_; rintro e w8 ⟨a8, c8, rfl, hrow8, hcap8, hR8, hK8⟩; have hf8 := (hR.on (drew_below wr)).step hK8 hR8; have c8' := hf8.cell; have z8' := hf8.free; have s8' := hf8.lt; have s8'' : w.heap.size + 1 < w8.heap.size := hf8.lt) | (refine step_call rfl 63 _ _ rfl #[.agg #[.bool il, .string (bs wd), .slice a8 ks9.length c8, .int .i64 q9]] (by simp [go_sem, Act.eval]) ?_; refine (func_any il wd ks9 q9 a8 c8 hR8.glob hwok hrow8 hcap8 (by omega)).mono ?_; rintro e w9 hG9; obtain ⟨v9, rfl, cs, rfl, hC⟩ := hG9.ok _ HRF.out; have hf9 := hf8.on hG9.below; have c9 := hf9.cell; have z9 := hf9.free; have s9 := hf9.lt; have hl9 : cs.length = 9 := kFu.len hC; have hfill := func_fill hl9; have hw9 := hG9.below.size; have hw8 := hK8.size; have hk9 : Kept (fun k => k = w.heap.size + 2) wr w9 := ((Below.kept (drew_below wr) (fun k => k = w.heap.size + 2)).trans hK8).on hG9.below; obtain ⟨xs, ho, hlay⟩ := kFu.own_keep HO.out hk9 (fun k e => by omega)) | (refine step_append_lies _ (by rfl) _ _ _ (by rfl) w6.heap.size 47 i0 _ 9 136 Tryz.underlying28 hi0 hz0 hz1 hz2 rfl (by omega) (.slice vx acc.length vc) acc.length xs (by rfl) (ho.alloc _) ⟨w9.heap.size, 0, none⟩ 1 1 cs (by rfl) (kFu.len hC) (World.news_of_block (cs := cs.toArray) (t := 47) (fr := (0, 0)) (heap_alloc_new w9 _)) (kFu.one hC) (by omega) (by unfold maxLen; omega) (by omega) (by have := hk9.size; simp; omega) (w9.heap.size + 1) (by simp) ?_; intro g cap w10 hown10 hgrow hat hltg; have hk10 := (Kept.alloc w9 (.cells cs.toArray 47) (fun k => (Value.slice vx acc.length vc).ownBlock = some k)).trans (Kept.of_grown hgrow); have hf10 := hf9.other hk10 (HNR.out _ (by omega)) (HNR.out _ (by omega)) (HNR.out _ (by omega)) (fun i e => HGE.out i e); have c10 := hf10.cell; have z10 := hf10.free)))
          all_goals go_wp2_with fail
          all_goals
            obtain ⟨hnew, hk11⟩ := kFu.append_all (x := x) hlay (kFu.mono hC fun b (hb : w8.heap.size ≤ b) hl => ⟨⟨by have h2 : wr.heap.size ≤ w8.heap.size := hK8.size; omega, fun e => by have h1 := (HV.out b e).2; have h2 : wr.heap.size ≤ w8.heap.size := hK8.size; omega⟩, rfl⟩) hown10 hgrow hat
            have hR12 := hf10.set 2 (.slice (some ⟨g, 0, none⟩) (acc.length + 1) cap) (xc' := #[.string (bs t4), .slice none 0 0, .slice (some ⟨g, 0, none⟩) (acc.length + 1) cap]) rfl
            refine ⟨⟨acc ++ [x], l6, .slice (some ⟨g, 0, none⟩) (acc.length + 1) cap, by simp; omega, by have := hk10.size; have := hk9.size; simp [World.setCell]; omega, ?_, hR12, hsz6, ?_⟩, ?_⟩
            · exact kFu.own_keep (by simpa using hnew) (Kept.set w10 (w.heap.size + 1) 2 _) (fun k e => by omega)
            · rw [HS2.out, HRF.out, List.length_append, List.length_singleton]
              simp only [Res.bind_ok]
              cases rdFuncs (acc.length + 1) l6 <;> simp
            · rw [hR12.rs.left, hR.rs.left]; simp
end Go.Proofs.YtbpdhegfdmppgaaGreatDoor
