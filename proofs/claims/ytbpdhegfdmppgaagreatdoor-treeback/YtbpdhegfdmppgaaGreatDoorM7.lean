/- Texts of this proof, put together: TNum, TLeaf, TMeth. -/
import Derived.Test.YtbpdhegfdmppgaaGreatDoorM6
import Derived.Lib.ParseUintOr
import Derived.Lib.AtoiErrMem

/- CONTRACTS of number and isFull. -/
namespace Go.Proofs.YtbpdhegfdmppgaaGreatDoor
open Go.ChangeShapes Go.WideShapes Go.ChangeAt Go.RowKit Go.Shelf

theorem ret_num {a b : Int} {x y : Bool} (h : a = b) (h' : x = y) : Ending.returned (.tuple #[.int .u32 a, .bool x]) = .returned (.tuple #[.int .u32 b, .bool y]) := by rw [h, h']
theorem num_le {l : List UInt8} {v : Nat} (h : num l = some v) : v ≤ 4294967295 := by
  unfold num at h
  split at h
  · cases h
  · split at h
    · rename_i u hu
      cases h
      exact Lib.parseUintB_le hu
    · cases h

theorem number_tail {B : Nat} (s : ByteArray) (w : World) (hs : s.size ≤ 1000000000) (hg : Glob B w) (h0 : ¬ (1 < s.data.toList.length ∧ s.data.toList.head? = some 48)) (hz : ¬ ((1 : Int) < (s.size : Int)) ∨ ∃ h : 0 < s.size, ¬ (s[0].toNat : Int) = 48 ∧ (1 : Int) < (s.size : Int)) :
    Calls Tryz.prog 124 #[.string s] w fun e w' => e = .returned (.tuple #[.int .u32 ((num s.data.toList).getD 0), .bool (num s.data.toList).isSome]) ∧ Below w.heap.size w w' := by
  obtain ⟨te, pe, hS⟩ := hg.errS
  obtain ⟨te', pe', hR⟩ := hg.errR
  cases h : Lib.parseUintB 32 s.data.toList with
  | ok u =>
    have hr : Hid (num s.data.toList = some u) := by show _ = _; rw [num, if_neg h0, h]
    have hu : u ≤ 4294967295 := Lib.parseUintB_le h
    have hc := Any.strconv_ParseUint_10_at32_ok Tryz.laysPu s (by omega) u h
    clear h h0
    rcases hz with hz | ⟨hlt, hz, h1⟩
    all_goals
      go_enter Tryz.func124, Tryz.ntmps124
      go_wp2_with (go_at_call 134; refine (hc _).mono ?_; rintro e w' ⟨rfl, hw⟩)
      go_ret2
      refine ⟨ret_num (by rw [hr.out]; simp) (by rw [hr.out]; rfl), ?_⟩
      rcases hw with rfl | rfl
      · exact Below.refl _ _
      · exact Lib.bytesWorld_below _ _ _
  | «syntax» =>
    have hr : Hid (num s.data.toList = none) := by show _ = _; rw [num, if_neg h0, h]
    have hc := Any.strconv_ParseUint_10_at32_syntax Tryz.laysPu s (by omega) h _ w hS (.inr ⟨te, pe, rfl⟩)
    clear h h0
    rcases hz with hz | ⟨hlt, hz, h1⟩
    all_goals
      go_enter Tryz.func124, Tryz.ntmps124
      go_wp2_with (go_at_call 134; refine hc.mono ?_; rintro e w' ⟨N, rfl, -, -, hb⟩)
      go_ret2
      exact ⟨ret_num (by rw [hr.out]; rfl) (by rw [hr.out]; rfl), hb⟩
  | range =>
    have hr : Hid (num s.data.toList = none) := by show _ = _; rw [num, if_neg h0, h]
    have hc := Any.strconv_ParseUint_10_at32_range Tryz.laysPu s (by omega) h _ w hR (.inr ⟨te', pe', rfl⟩)
    clear h h0
    rcases hz with hz | ⟨hlt, hz, h1⟩
    all_goals
      go_enter Tryz.func124, Tryz.ntmps124
      go_wp2_with (go_at_call 134; refine hc.mono ?_; rintro e w' ⟨N, rfl, -, -, hb⟩)
      go_ret2
      exact ⟨ret_num (by rw [hr.out]; rfl) (by rw [hr.out]; rfl), hb⟩

theorem number_any {B : Nat} (s : ByteArray) (w : World) (hs : s.size ≤ 1000000000) (hg : Glob B w) :
    Calls Tryz.prog 124 #[.string s] w fun e w' => e = .returned (.tuple #[.int .u32 ((num s.data.toList).getD 0), .bool (num s.data.toList).isSome]) ∧ Below w.heap.size w w' := by
  have hl : s.data.toList.length = s.size := rfl
  by_cases h1 : 1 < s.size
  · have hlt : 0 < s.size := by omega
    have hh : s.data.toList.head? = some s[0] := by
      rw [List.head?_eq_getElem?, List.getElem?_eq_getElem (by rw [hl]; exact hlt)]; rfl
    have h1' : (1 : Int) < (s.size : Int) := by omega
    by_cases h48 : s[0] = 48
    · have h48' : (s[0].toNat : Int) = 48 := by rw [h48]; rfl
      have hr : Hid (num s.data.toList = none) := by show _ = _; rw [num, if_pos ⟨by rw [hl]; exact h1, by rw [hh, h48]⟩]
      clear hh h48 hl
      go_enter Tryz.func124, Tryz.ntmps124
      go_wp2_with fail
      go_ret2
      exact ⟨ret_num (by rw [hr.out]; rfl) (by rw [hr.out]; rfl), Below.refl _ _⟩
    · refine number_tail s w hs hg (fun ⟨_, e⟩ => h48 (by rw [hh] at e; exact Option.some.inj e)) (.inr ⟨hlt, fun e => h48 ?_, h1'⟩)
      apply UInt8.toNat_inj.1
      show _ = 48
      omega
  · exact number_tail s w hs hg (fun ⟨e, _⟩ => h1 (by rw [hl] at e; exact e)) (.inl (by omega))

theorem isFull_any {B : Nat} (s : ByteArray) (w : World) (hs : s.size ≤ 1000000000) (hg : Glob B w) :
    Calls Tryz.prog 113 #[.string s] w fun e w' => e = .returned (.bool (isFull s.data.toList)) ∧ Below w.heap.size w w' := by
  obtain ⟨m, hm⟩ := hg.maxl
  have hc := Any.strings_Cut Tryz.laysCut s ⟨#[46]⟩ m w (by omega) hm
  have hF : Hid (isFull s.data.toList = (isName (Lib.cut s.data.toList [46]).1 && (!(Lib.cut s.data.toList [46]).2.2 || isName (Lib.cut s.data.toList [46]).2.1))) := rfl
  have e46 : (⟨#[46]⟩ : ByteArray).data.toList = [46] := rfl
  rw [e46] at hc
  clear e46 hm
  generalize (Lib.cut s.data.toList [46]).1 = x at hc hF
  generalize (Lib.cut s.data.toList [46]).2.1 = y at hc hF
  generalize (Lib.cut s.data.toList [46]).2.2 = z at hc hF
  have hx := name_any ⟨x.toArray⟩
  have hy := name_any ⟨y.toArray⟩
  have ex : (⟨x.toArray⟩ : ByteArray).data.toList = x := by simp
  have ey : (⟨y.toArray⟩ : ByteArray).data.toList = y := by simp
  rw [ex] at hx
  rw [ey] at hy
  clear ex ey
  rcases nx : isName x with _ | _ <;> rw [nx] at hx hF <;> rcases z with _ | _ <;> rcases ny : isName y with _ | _ <;> rw [ny] at hy hF
  all_goals
    clear nx ny
    generalize (⟨x.toArray⟩ : ByteArray) = sx at hc hx
    generalize (⟨y.toArray⟩ : ByteArray) = sy at hc hy
    go_enter Tryz.func113, Tryz.ntmps113
    go_wp2_with (first | (go_at_call 122; refine hc.mono ?_; rintro e w1 ⟨rfl, n, hq1⟩) | (go_at_call_of 22 (Value.string sx); refine (hx _).mono ?_; rintro e w2 ⟨rfl, hq⟩; have hq' := hq.symm; subst hq') | (go_at_call_of 22 (Value.string sy); refine (hy _).mono ?_; rintro e w2 ⟨rfl, hq⟩; have hq' := hq.symm; subst hq'))
    go_ret
    exact ⟨ret_bool (by rw [hF.out]; rfl), drewN_below _ _⟩
end Go.Proofs.YtbpdhegfdmppgaaGreatDoor

/- CONTRACTS of what reads one node: nameOf; of what is left of a list the methods skip, name, full, label, within, nextOf, end, begins. -/
namespace Go.Proofs.YtbpdhegfdmppgaaGreatDoor
open Go.ChangeShapes Go.WideShapes Go.ChangeAt Go.RowKit

/-- How a call ends. -/
def endOf {α : Type} (val : α → Value) : Res α → Ending
  | .ok x => .returned (val x)
  | .bad c p => .panicked (flt c p)
def sval (s : List UInt8) : Value := .string (bs s)

theorem below_box {w w2 : World} {cs : Array Value} {t : TypeId} (hb : Below (w.alloc (.cells cs t)).heap.size (w.alloc (.cells cs t)) w2) : w2.heap[w.heap.size]? = some (.cells cs t (0, 0)) := by
  rw [hb.block w.heap.size (by simp)]
  exact heap_alloc_new w _
theorem below_out {w w2 : World} {o : Obj} (hb : Below (w.alloc o).heap.size (w.alloc o) w2) : Below w.heap.size w w2 := ((Below.refl _ _).alloc (Nat.le_refl _) _).trans (hb.mono (by simp))
theorem name_bs (l : List UInt8) (w : World) : Calls Tryz.prog 22 #[.string (bs l)] w fun e w' => e = .returned (.bool (isName l)) ∧ w' = w := by
  have := name_any (bs l) w
  rw [bs_list] at this
  exact this
theorem number_bs {B : Nat} (l : List UInt8) (w : World) (hs : l.length ≤ 1000000000) (hg : Glob B w) :
    Calls Tryz.prog 124 #[.string (bs l)] w fun e w' => e = .returned (.tuple #[.int .u32 ((num l).getD 0), .bool (num l).isSome]) ∧ Below w.heap.size w w' := by
  have := number_any (bs l) w (by rw [bs_size]; exact hs) hg
  rw [bs_list] at this
  exact this
theorem full_bs {B : Nat} (l : List UInt8) (w : World) (hs : l.length ≤ 1000000000) (hg : Glob B w) :
    Calls Tryz.prog 113 #[.string (bs l)] w fun e w' => e = .returned (.bool (isFull l)) ∧ Below w.heap.size w w' := by
  have := isFull_any (bs l) w (by rw [bs_size]; exact hs) hg
  rw [bs_list] at this
  exact this
theorem text_bs (il : Bool) (wd : List UInt8) (ks : List Nd) (q : Int) (a : Option Addr) (c : Nat) (w : World) : Calls Tryz.prog 94 #[.agg #[.bool il, .string (bs wd), .slice a ks.length c, .int .i64 q]] w fun e w' =>
    e = endOf sval (rdText (.mk il wd ks q)) ∧ Below w.heap.size w w' := by
  refine (text_any il wd ks q a c w).mono ?_
  rintro e w' ⟨h, hb⟩
  refine ⟨?_, hb⟩
  cases hr : rdText (.mk il wd ks q) with
  | ok s => rw [hr] at h; exact h
  | bad x y => rw [hr] at h; exact h
theorem rdText_wd {il : Bool} {wd : List UInt8} {ks : List Nd} {q : Int} {s : List UInt8} (h : rdText (.mk il wd ks q) = .ok s) : s = wd ∧ il = false ∧ ks = [] := by
  simp only [rdText] at h
  split at h
  · cases h
  · rename_i hc
    cases h
    refine ⟨rfl, by simpa using (by simp at hc; exact hc.1), by simp at hc; exact hc.2⟩

theorem nameOf_any (il : Bool) (wd : List UInt8) (ks : List Nd) (q : Int) (a : Option Addr) (c : Nat) (w : World) : Calls Tryz.prog 95 #[.agg #[.bool il, .string (bs wd), .slice a ks.length c, .int .i64 q]] w fun e w' =>
    e = endOf sval (rdNameOf (.mk il wd ks q)) ∧ Below w.heap.size w w' := by
  have ht := text_bs il wd ks q a c
  generalize ks.length = n at ht ⊢
  cases hr : rdText (.mk il wd ks q) with
  | bad x y =>
    have HR : Hid (rdNameOf (.mk il wd ks q) = .bad x y) := by show _ = _; rw [rdNameOf, hr]; rfl
    rw [hr] at ht
    simp only [endOf] at ht
    clear hr
    go_enter Tryz.func95, Tryz.ntmps95
    go_wp2_with (go_at_call 94; refine (ht _).mono ?_; rintro e w' ⟨rfl, hb⟩)
    exact ⟨rfl, by rw [HR.out]; rfl, below_out hb⟩
  | ok s =>
    rw [hr] at ht
    simp only [endOf, sval] at ht
    cases hn : isName s with
    | true =>
      have HR : Hid (rdNameOf (.mk il wd ks q) = .ok s) := by show _ = _; rw [rdNameOf, hr]; simp [hn]
      clear hr
      go_enter Tryz.func95, Tryz.ntmps95
      go_wp2_with (first | (go_at_call 94; refine (ht _).mono ?_; rintro e w' ⟨rfl, hb⟩; obtain ⟨b0, b1, b2, b3⟩ := cells4 (below_box hb)) | (go_at_call 22; refine (name_bs _ _).mono ?_; rintro e w2 ⟨rfl, hq⟩; have hq' := hq.symm; subst hq'))
      go_ret
      exact ⟨by rw [HR.out]; rfl, below_out hb⟩
    | false =>
      have HR : Hid (rdNameOf (.mk il wd ks q) = .bad 6 q) := by show _ = _; rw [rdNameOf, hr]; simp [hn, Nd.pos]
      clear hr
      go_enter Tryz.func95, Tryz.ntmps95
      go_wp2_with (first | (go_at_call 94; refine (ht _).mono ?_; rintro e w' ⟨rfl, hb⟩; obtain ⟨b0, b1, b2, b3⟩ := cells4 (below_box hb)) | (go_at_call 22; refine (name_bs _ _).mono ?_; rintro e w2 ⟨rfl, hq⟩; have hq' := hq.symm; subst hq') | (go_at_call 92; refine (refuse_any _ _ _ _ _ _ _).mono ?_; rintro e w3 ⟨rfl, hb3⟩))
      exact ⟨rfl, by rw [HR.out]; rfl, (below_out hb).trans (hb3.mono (below_out hb).size)⟩
end Go.Proofs.YtbpdhegfdmppgaaGreatDoor

/- CONTRACTS of the methods that read one node of what is left of a list: name, skip, full, label, within; nextOf, end, begins. -/
namespace Go.Proofs.YtbpdhegfdmppgaaGreatDoor
open Go.ChangeShapes Go.WideShapes Go.ChangeAt Go.RowKit

/-- What a method leaves behind: all but r as it was; r behind what was read. -/
structure Left {α : Type} (B : Nat) (w : World) (r : Nat) (p : Int) (val : α → Value) (res : Res (α × List Nd)) (e : Ending) (w' : World) : Prop where
  kept : Kept (fun k => k = r) w w'
  ends : e = endOf (fun x => val x.1) res
  rest : ∀ x l', res = .ok (x, l') → Rs B w' r l' p

theorem Left.bad {α : Type} {B : Nat} {w w' : World} {r : Nat} {p : Int} {val : α → Value} {res : Res (α × List Nd)} {c q : Int} (h : res = .bad c q) (hk : Kept (fun k => k = r) w w') : Left B w r p val res (.panicked (flt c q)) w' :=
  ⟨hk, by rw [h]; rfl, fun x l' e => by rw [h] at e; cases e⟩
theorem Left.good {α : Type} {B : Nat} {w w' : World} {r : Nat} {p : Int} {val : α → Value} {res : Res (α × List Nd)} {x : α} {l' : List Nd} {v : Value} (h : res = .ok (x, l')) (hv : val x = v) (hk : Kept (fun k => k = r) w w') (hr : Rs B w' r l' p) : Left B w r p val res (.returned v) w' :=
  ⟨hk, by rw [h]; simp only [endOf, hv], fun y l e => by rw [h] at e; cases e; exact hr⟩
theorem rdBy_nil {α : Type} (f : Nd → Res α) (p : Int) : rdBy f p [] = .bad 6 p := rfl
theorem rdBy_bad {α : Type} {f : Nd → Res α} {n : Nd} {c q : Int} (p : Int) (l : List Nd) (h : f n = .bad c q) : rdBy f p (n :: l) = .bad c q := by
  show (f n).bind _ = _
  rw [h]; rfl
theorem rdBy_ok {α : Type} {f : Nd → Res α} {n : Nd} {x : α} (p : Int) (l : List Nd) (h : f n = .ok x) : rdBy f p (n :: l) = .ok (x, l) := by
  show (f n).bind _ = _
  rw [h]; rfl
/-- Behind new blocks. -/
theorem Rs.out {B : Nat} {w w2 : World} {r : Nat} {l : List Nd} {p : Int} {o : Obj} (h : Rs B w r l p) (hb : Below (w.alloc o).heap.size (w.alloc o) w2) : Rs B w2 r l p := h.below (below_out hb)
theorem Kept.out {M : Nat → Prop} {w0 w w2 : World} {o : Obj} (h : Kept M w0 w) (hb : Below (w.alloc o).heap.size (w.alloc o) w2) : Kept M w0 w2 := h.trans (Below.kept (below_out hb) M)
theorem Kept.on {M : Nat → Prop} {a b c : World} (h : Kept M a b) (hb : Below b.heap.size b c) : Kept M a c := h.trans (Below.kept hb M)

theorem name_rs {B : Nat} {w : World} {r : Nat} {l : List Nd} {p : Int} (h : Rs B w r l p) :
    Calls Tryz.prog 58 #[.pointer (some ⟨r, 0, none⟩)] w (Left B w r p sval (rdBy rdNameOf p l)) := by
  cases l with
  | nil =>
    go_enter Tryz.func58, Tryz.ntmps58
    go_wp2_with (go_at_call 56; refine (next_bad h).mono ?_; rintro e w1 ⟨rfl, hb1⟩)
    exact ⟨rfl, .bad (rdBy_nil _ _) (Below.kept hb1 _)⟩
  | cons n l =>
    obtain ⟨il, wd, ks, q⟩ := n
    cases ht : rdNameOf (.mk il wd ks q) with
    | bad x y =>
      have HT : Hid (rdNameOf (.mk il wd ks q) = .bad x y) := ht
      clear ht
      go_enter Tryz.func58, Tryz.ntmps58
      go_wp2_with (first | (go_at_call 56; refine (next_ok il wd ks q h).mono ?_; rintro e w1 ⟨a, c, rfl, hrow, hcap, hR1, hK1⟩) | (go_at_call 95; refine (nameOf_any il wd ks q _ _ _).mono ?_; rw [HT.out]; simp only [endOf]; rintro e w2 ⟨rfl, hb2⟩))
      exact ⟨rfl, .bad (rdBy_bad _ _ HT.out) (hK1.on hb2)⟩
    | ok s =>
      have HT : Hid (rdNameOf (.mk il wd ks q) = .ok s) := ht
      clear ht
      go_enter Tryz.func58, Tryz.ntmps58
      go_wp2_with (first | (go_at_call 56; refine (next_ok il wd ks q h).mono ?_; rintro e w1 ⟨a, c, rfl, hrow, hcap, hR1, hK1⟩) | (go_at_call 95; refine (nameOf_any il wd ks q _ _ _).mono ?_; rw [HT.out]; simp only [endOf, sval]; rintro e w2 ⟨rfl, hb2⟩))
      go_ret
      exact .good (rdBy_ok _ _ HT.out) rfl (hK1.on hb2) (hR1.below hb2)
set_option maxHeartbeats 1000000 in
theorem skip_rs {B : Nat} {w : World} {r : Nat} {l : List Nd} {p : Int} (v : List UInt8) (h : Rs B w r l p) :
    Calls Tryz.prog 57 #[.pointer (some ⟨r, 0, none⟩), .string (bs v)] w (Left B w r p (fun _ => .tuple #[]) (rdBy (rdSkipOf v) p l)) := by
  cases l with
  | nil =>
    go_enter Tryz.func57, Tryz.ntmps57
    go_wp2_with (go_at_call 56; refine (next_bad h).mono ?_; rintro e w1 ⟨rfl, hb1⟩)
    exact ⟨rfl, .bad (rdBy_nil _ _) (Below.kept hb1 _)⟩
  | cons n l =>
    obtain ⟨il, wd, ks, q⟩ := n
    have hwl : wd.length ≤ 1000000000 := h.wok.1.1
    cases ht : rdText (.mk il wd ks q) with
    | bad x y =>
      have HT : Hid (rdText (.mk il wd ks q) = .bad x y) := ht
      have HF : Hid ((rdSkipOf v) (.mk il wd ks q) = .bad x y) := by show _ = _; simp only [rdSkipOf, ht, Res.bind_bad]
      clear ht
      go_enter Tryz.func57, Tryz.ntmps57
      go_wp2_with (first | (go_at_call 56; refine (next_ok il wd ks q h).mono ?_; rintro e w1 ⟨a, c, rfl, hrow, hcap, hR1, hK1⟩) | (go_at_call 94; refine (text_bs il wd ks q _ _ _).mono ?_; rw [HT.out]; simp only [endOf]; rintro e w2 ⟨rfl, hb2⟩))
      exact ⟨rfl, .bad (rdBy_bad _ _ HF.out) (hK1.out hb2)⟩
    | ok s =>
      have HT : Hid (rdText (.mk il wd ks q) = .ok s) := ht
      have hsl : s.length ≤ 1000000000 := by rw [(rdText_wd ht).1]; exact hwl
      by_cases hv : s = v
      · have HF : Hid ((rdSkipOf v) (.mk il wd ks q) = .ok ()) := by show _ = _; simp only [rdSkipOf, ht, Res.bind_ok, hv, if_true]
        have he : ((bs s).toList == (bs v).toList) = true := by rw [hv]; simp
        clear ht
        go_enter Tryz.func57, Tryz.ntmps57
        go_wp2_with (first | (go_at_call 56; refine (next_ok il wd ks q h).mono ?_; rintro e w1 ⟨a, c, rfl, hrow, hcap, hR1, hK1⟩) | (go_at_call 94; refine (text_bs il wd ks q _ _ _).mono ?_; rw [HT.out]; simp only [endOf, sval]; rintro e w2 ⟨rfl, hb2⟩; obtain ⟨b0, b1, b2, b3⟩ := cells4 (below_box hb2)))
        go_end0
        exact .good (rdBy_ok _ _ HF.out) rfl (hK1.out hb2) (hR1.out hb2)
      · have HF : Hid ((rdSkipOf v) (.mk il wd ks q) = .bad 6 q) := by show _ = _; simp only [rdSkipOf, ht, Res.bind_ok, hv, if_false, Nd.pos]
        have he : ((bs s).toList == (bs v).toList) = false := by rw [ByteArray.toList_eq, ByteArray.toList_eq, bs_list, bs_list]; simpa using hv
        clear ht
        go_enter Tryz.func57, Tryz.ntmps57
        go_wp2_with (first | (go_at_call 56; refine (next_ok il wd ks q h).mono ?_; rintro e w1 ⟨a, c, rfl, hrow, hcap, hR1, hK1⟩) | (go_at_call 94; refine (text_bs il wd ks q _ _ _).mono ?_; rw [HT.out]; simp only [endOf, sval]; rintro e w2 ⟨rfl, hb2⟩; obtain ⟨b0, b1, b2, b3⟩ := cells4 (below_box hb2)) | (go_at_call 92; refine (refuse_any _ _ _ _ _ _ _).mono ?_; rintro e w9 ⟨rfl, hb9⟩))
        exact ⟨rfl, .bad (rdBy_bad _ _ HF.out) ((hK1.out hb2).on hb9)⟩
set_option maxHeartbeats 1000000 in
theorem full_rs {B : Nat} {w : World} {r : Nat} {l : List Nd} {p : Int} (h : Rs B w r l p) :
    Calls Tryz.prog 132 #[.pointer (some ⟨r, 0, none⟩)] w (Left B w r p sval (rdBy rdFullOf p l)) := by
  cases l with
  | nil =>
    go_enter Tryz.func132, Tryz.ntmps132
    go_wp2_with (go_at_call 56; refine (next_bad h).mono ?_; rintro e w1 ⟨rfl, hb1⟩)
    exact ⟨rfl, .bad (rdBy_nil _ _) (Below.kept hb1 _)⟩
  | cons n l =>
    obtain ⟨il, wd, ks, q⟩ := n
    have hwl : wd.length ≤ 1000000000 := h.wok.1.1
    cases ht : rdText (.mk il wd ks q) with
    | bad x y =>
      have HT : Hid (rdText (.mk il wd ks q) = .bad x y) := ht
      have HF : Hid (rdFullOf (.mk il wd ks q) = .bad x y) := by show _ = _; simp only [rdFullOf, ht, Res.bind_bad]
      clear ht
      go_enter Tryz.func132, Tryz.ntmps132
      go_wp2_with (first | (go_at_call 56; refine (next_ok il wd ks q h).mono ?_; rintro e w1 ⟨a, c, rfl, hrow, hcap, hR1, hK1⟩) | (go_at_call 94; refine (text_bs il wd ks q _ _ _).mono ?_; rw [HT.out]; simp only [endOf]; rintro e w2 ⟨rfl, hb2⟩))
      exact ⟨rfl, .bad (rdBy_bad _ _ HF.out) (hK1.out hb2)⟩
    | ok s =>
      have HT : Hid (rdText (.mk il wd ks q) = .ok s) := ht
      have hsl : s.length ≤ 1000000000 := by rw [(rdText_wd ht).1]; exact hwl
      cases hv : isFull s with
      | true =>
        have HF : Hid (rdFullOf (.mk il wd ks q) = .ok s) := by show _ = _; simp only [rdFullOf, ht, Res.bind_ok, hv, if_true]
        clear ht
        go_enter Tryz.func132, Tryz.ntmps132
        go_wp2_with (first | (go_at_call 56; refine (next_ok il wd ks q h).mono ?_; rintro e w1 ⟨a, c, rfl, hrow, hcap, hR1, hK1⟩) | (go_at_call 94; refine (text_bs il wd ks q _ _ _).mono ?_; rw [HT.out]; simp only [endOf, sval]; rintro e w2 ⟨rfl, hb2⟩; obtain ⟨b0, b1, b2, b3⟩ := cells4 (below_box hb2)) | (go_at_call 113; refine (full_bs _ _ hsl (hR1.out hb2).glob).mono ?_; rintro e w3 ⟨rfl, hb3⟩; have b0' := (Below.kept hb3 (fun _ => False)).cell (by simp) b0; have b1' := (Below.kept hb3 (fun _ => False)).cell (by simp) b1; have b2' := (Below.kept hb3 (fun _ => False)).cell (by simp) b2; have b3' := (Below.kept hb3 (fun _ => False)).cell (by simp) b3))
        go_ret
        exact .good (rdBy_ok _ _ HF.out) rfl ((hK1.out hb2).on hb3) ((hR1.out hb2).below hb3)
      | false =>
        have HF : Hid (rdFullOf (.mk il wd ks q) = .bad 6 q) := by show _ = _; simp only [rdFullOf, ht, Res.bind_ok, hv, Nd.pos]; simp
        clear ht
        go_enter Tryz.func132, Tryz.ntmps132
        go_wp2_with (first | (go_at_call 56; refine (next_ok il wd ks q h).mono ?_; rintro e w1 ⟨a, c, rfl, hrow, hcap, hR1, hK1⟩) | (go_at_call 94; refine (text_bs il wd ks q _ _ _).mono ?_; rw [HT.out]; simp only [endOf, sval]; rintro e w2 ⟨rfl, hb2⟩; obtain ⟨b0, b1, b2, b3⟩ := cells4 (below_box hb2)) | (go_at_call 113; refine (full_bs _ _ hsl (hR1.out hb2).glob).mono ?_; rintro e w3 ⟨rfl, hb3⟩; have b0' := (Below.kept hb3 (fun _ => False)).cell (by simp) b0; have b1' := (Below.kept hb3 (fun _ => False)).cell (by simp) b1; have b2' := (Below.kept hb3 (fun _ => False)).cell (by simp) b2; have b3' := (Below.kept hb3 (fun _ => False)).cell (by simp) b3) | (go_at_call 92; refine (refuse_any _ _ _ _ _ _ _).mono ?_; rintro e w9 ⟨rfl, hb9⟩))
        exact ⟨rfl, .bad (rdBy_bad _ _ HF.out) (((hK1.out hb2).on hb3).on hb9)⟩
set_option maxHeartbeats 1000000 in
theorem label_rs {B : Nat} {w : World} {r : Nat} {l : List Nd} {p : Int} (h : Rs B w r l p) :
    Calls Tryz.prog 97 #[.pointer (some ⟨r, 0, none⟩)] w (Left B w r p Value.bool (rdBy rdLabelOf p l)) := by
  cases l with
  | nil =>
    go_enter Tryz.func97, Tryz.ntmps97
    go_wp2_with (go_at_call 56; refine (next_bad h).mono ?_; rintro e w1 ⟨rfl, hb1⟩)
    exact ⟨rfl, .bad (rdBy_nil _ _) (Below.kept hb1 _)⟩
  | cons n l =>
    obtain ⟨il, wd, ks, q⟩ := n
    have hwl : wd.length ≤ 1000000000 := h.wok.1.1
    cases ht : rdText (.mk il wd ks q) with
    | bad x y =>
      have HT : Hid (rdText (.mk il wd ks q) = .bad x y) := ht
      have HF : Hid (rdLabelOf (.mk il wd ks q) = .bad x y) := by show _ = _; simp only [rdLabelOf, ht, Res.bind_bad]
      clear ht
      go_enter Tryz.func97, Tryz.ntmps97
      go_wp2_with (first | (go_at_call 56; refine (next_ok il wd ks q h).mono ?_; rintro e w1 ⟨a, c, rfl, hrow, hcap, hR1, hK1⟩) | (go_at_call 94; refine (text_bs il wd ks q _ _ _).mono ?_; rw [HT.out]; simp only [endOf]; rintro e w2 ⟨rfl, hb2⟩))
      exact ⟨rfl, .bad (rdBy_bad _ _ HF.out) (hK1.out hb2)⟩
    | ok s =>
      have HT : Hid (rdText (.mk il wd ks q) = .ok s) := ht
      have hsl : s.length ≤ 1000000000 := by rw [(rdText_wd ht).1]; exact hwl
      by_cases hv : s = [112, 117, 98]
      · have HF : Hid (rdLabelOf (.mk il wd ks q) = .ok false) := by show _ = _; simp only [rdLabelOf, ht, Res.bind_ok, hv, if_true]
        have he : (bs s).toList = [112, 117, 98] := by rw [ByteArray.toList_eq, bs_list]; exact hv
        clear hv
        clear ht
        go_enter Tryz.func97, Tryz.ntmps97
        go_wp2_with (first | (go_at_call 56; refine (next_ok il wd ks q h).mono ?_; rintro e w1 ⟨a, c, rfl, hrow, hcap, hR1, hK1⟩) | (go_at_call 94; refine (text_bs il wd ks q _ _ _).mono ?_; rw [HT.out]; simp only [endOf, sval]; rintro e w2 ⟨rfl, hb2⟩; obtain ⟨b0, b1, b2, b3⟩ := cells4 (below_box hb2)))
        go_ret
        exact .good (rdBy_ok _ _ HF.out) rfl (hK1.out hb2) (hR1.out hb2)
      · have he : ¬ (bs s).toList = [112, 117, 98] := by rw [ByteArray.toList_eq, bs_list]; exact hv
        by_cases hv' : s = [115, 101, 99]
        · have HF : Hid (rdLabelOf (.mk il wd ks q) = .ok true) := by show _ = _; simp only [rdLabelOf, ht, Res.bind_ok, hv', if_true]; simp
          have he' : (bs s).toList = [115, 101, 99] := by rw [ByteArray.toList_eq, bs_list]; exact hv'
          clear hv hv'
          clear ht
          go_enter Tryz.func97, Tryz.ntmps97
          go_wp2_with (first | (go_at_call 56; refine (next_ok il wd ks q h).mono ?_; rintro e w1 ⟨a, c, rfl, hrow, hcap, hR1, hK1⟩) | (go_at_call 94; refine (text_bs il wd ks q _ _ _).mono ?_; rw [HT.out]; simp only [endOf, sval]; rintro e w2 ⟨rfl, hb2⟩; obtain ⟨b0, b1, b2, b3⟩ := cells4 (below_box hb2)))
          go_ret
          exact .good (rdBy_ok _ _ HF.out) rfl (hK1.out hb2) (hR1.out hb2)
        · have HF : Hid (rdLabelOf (.mk il wd ks q) = .bad 6 q) := by show _ = _; simp only [rdLabelOf, ht, Res.bind_ok, hv, hv', if_false, Nd.pos]
          have he' : ¬ (bs s).toList = [115, 101, 99] := by rw [ByteArray.toList_eq, bs_list]; exact hv'
          have g1 : ((bs s).toList == [112, 117, 98]) = false := by simpa using he
          have g2 : ((bs s).toList == [115, 101, 99]) = false := by simpa using he'
          clear hv hv'
          clear ht
          go_enter Tryz.func97, Tryz.ntmps97
          go_wp2_with (first | (go_at_call 56; refine (next_ok il wd ks q h).mono ?_; rintro e w1 ⟨a, c, rfl, hrow, hcap, hR1, hK1⟩) | (go_at_call 94; refine (text_bs il wd ks q _ _ _).mono ?_; rw [HT.out]; simp only [endOf, sval]; rintro e w2 ⟨rfl, hb2⟩; obtain ⟨b0, b1, b2, b3⟩ := cells4 (below_box hb2)) | (go_at_call 92; refine (refuse_any _ _ _ _ _ _ _).mono ?_; rintro e w9 ⟨rfl, hb9⟩))
          exact ⟨rfl, .bad (rdBy_bad _ _ HF.out) ((hK1.out hb2).on hb9)⟩
set_option maxHeartbeats 1000000 in
theorem within_rs {B : Nat} {w : World} {r : Nat} {l : List Nd} {p : Int} (lo hi : Nat) (h : Rs B w r l p) :
    Calls Tryz.prog 116 #[.pointer (some ⟨r, 0, none⟩), .int .u32 lo, .int .u32 hi] w (Left B w r p (fun n : Nat => .int .i64 (n : Int)) (rdBy (rdWithinOf lo hi) p l)) := by
  cases l with
  | nil =>
    go_enter Tryz.func116, Tryz.ntmps116
    go_wp2_with (go_at_call 56; refine (next_bad h).mono ?_; rintro e w1 ⟨rfl, hb1⟩)
    exact ⟨rfl, .bad (rdBy_nil _ _) (Below.kept hb1 _)⟩
  | cons n l =>
    obtain ⟨il, wd, ks, q⟩ := n
    have hwl : wd.length ≤ 1000000000 := h.wok.1.1
    cases ht : rdText (.mk il wd ks q) with
    | bad x y =>
      have HT : Hid (rdText (.mk il wd ks q) = .bad x y) := ht
      have HF : Hid ((rdWithinOf lo hi) (.mk il wd ks q) = .bad x y) := by show _ = _; simp only [rdWithinOf, ht, Res.bind_bad]
      clear ht
      go_enter Tryz.func116, Tryz.ntmps116
      go_wp2_with (first | (go_at_call 56; refine (next_ok il wd ks q h).mono ?_; rintro e w1 ⟨a, c, rfl, hrow, hcap, hR1, hK1⟩) | (go_at_call 94; refine (text_bs il wd ks q _ _ _).mono ?_; rw [HT.out]; simp only [endOf]; rintro e w2 ⟨rfl, hb2⟩))
      exact ⟨rfl, .bad (rdBy_bad _ _ HF.out) (hK1.out hb2)⟩
    | ok s =>
      have HT : Hid (rdText (.mk il wd ks q) = .ok s) := ht
      have hsl : s.length ≤ 1000000000 := by rw [(rdText_wd ht).1]; exact hwl
      cases hn : num s with
      | none =>
        have HN : Hid (num s = none) := hn
        have HF : Hid ((rdWithinOf lo hi) (.mk il wd ks q) = .bad 6 q) := by show _ = _; simp only [rdWithinOf, ht, Res.bind_ok, hn, Nd.pos]
        clear hn
        clear ht
        go_enter Tryz.func116, Tryz.ntmps116
        go_wp2_with (first | (go_at_call 56; refine (next_ok il wd ks q h).mono ?_; rintro e w1 ⟨a, c, rfl, hrow, hcap, hR1, hK1⟩) | (go_at_call 94; refine (text_bs il wd ks q _ _ _).mono ?_; rw [HT.out]; simp only [endOf, sval]; rintro e w2 ⟨rfl, hb2⟩; obtain ⟨b0, b1, b2, b3⟩ := cells4 (below_box hb2)) | (go_at_call 124; refine (number_bs _ _ hsl (hR1.out hb2).glob).mono ?_; rw [HN.out]; simp only [Option.getD, Option.isSome]; rintro e w3 ⟨rfl, hb3⟩; have b0' := (Below.kept hb3 (fun _ => False)).cell (by simp) b0; have b1' := (Below.kept hb3 (fun _ => False)).cell (by simp) b1; have b2' := (Below.kept hb3 (fun _ => False)).cell (by simp) b2; have b3' := (Below.kept hb3 (fun _ => False)).cell (by simp) b3) | (go_at_call 92; refine (refuse_any _ _ _ _ _ _ _).mono ?_; rintro e w9 ⟨rfl, hb9⟩))
        exact ⟨rfl, .bad (rdBy_bad _ _ HF.out) (((hK1.out hb2).on hb3).on hb9)⟩
      | some v =>
        have HN : Hid (num s = some v) := hn
        have hv9 := num_le hn
        by_cases hlo : v < lo
        · have HF : Hid ((rdWithinOf lo hi) (.mk il wd ks q) = .bad 6 q) := by show _ = _; simp only [rdWithinOf, ht, Res.bind_ok, hn, Nd.pos]; rw [if_neg (by omega)]
          have h1 : (v : Int) < (lo : Int) := by omega
          clear hn
          clear ht
          go_enter Tryz.func116, Tryz.ntmps116
          go_wp2_with (first | (go_at_call 56; refine (next_ok il wd ks q h).mono ?_; rintro e w1 ⟨a, c, rfl, hrow, hcap, hR1, hK1⟩) | (go_at_call 94; refine (text_bs il wd ks q _ _ _).mono ?_; rw [HT.out]; simp only [endOf, sval]; rintro e w2 ⟨rfl, hb2⟩; obtain ⟨b0, b1, b2, b3⟩ := cells4 (below_box hb2)) | (go_at_call 124; refine (number_bs _ _ hsl (hR1.out hb2).glob).mono ?_; rw [HN.out]; simp only [Option.getD, Option.isSome]; rintro e w3 ⟨rfl, hb3⟩; have b0' := (Below.kept hb3 (fun _ => False)).cell (by simp) b0; have b1' := (Below.kept hb3 (fun _ => False)).cell (by simp) b1; have b2' := (Below.kept hb3 (fun _ => False)).cell (by simp) b2; have b3' := (Below.kept hb3 (fun _ => False)).cell (by simp) b3) | (go_at_call 92; refine (refuse_any _ _ _ _ _ _ _).mono ?_; rintro e w9 ⟨rfl, hb9⟩))
          exact ⟨rfl, .bad (rdBy_bad _ _ HF.out) (((hK1.out hb2).on hb3).on hb9)⟩
        · have h1 : ¬ (v : Int) < (lo : Int) := by omega
          by_cases hhi : hi < v
          · have HF : Hid ((rdWithinOf lo hi) (.mk il wd ks q) = .bad 6 q) := by show _ = _; simp only [rdWithinOf, ht, Res.bind_ok, hn, Nd.pos]; rw [if_neg (by omega)]
            have h2 : (hi : Int) < (v : Int) := by omega
            clear hn
            clear ht
            go_enter Tryz.func116, Tryz.ntmps116
            go_wp2_with (first | (go_at_call 56; refine (next_ok il wd ks q h).mono ?_; rintro e w1 ⟨a, c, rfl, hrow, hcap, hR1, hK1⟩) | (go_at_call 94; refine (text_bs il wd ks q _ _ _).mono ?_; rw [HT.out]; simp only [endOf, sval]; rintro e w2 ⟨rfl, hb2⟩; obtain ⟨b0, b1, b2, b3⟩ := cells4 (below_box hb2)) | (go_at_call 124; refine (number_bs _ _ hsl (hR1.out hb2).glob).mono ?_; rw [HN.out]; simp only [Option.getD, Option.isSome]; rintro e w3 ⟨rfl, hb3⟩; have b0' := (Below.kept hb3 (fun _ => False)).cell (by simp) b0; have b1' := (Below.kept hb3 (fun _ => False)).cell (by simp) b1; have b2' := (Below.kept hb3 (fun _ => False)).cell (by simp) b2; have b3' := (Below.kept hb3 (fun _ => False)).cell (by simp) b3) | (go_at_call 92; refine (refuse_any _ _ _ _ _ _ _).mono ?_; rintro e w9 ⟨rfl, hb9⟩))
            exact ⟨rfl, .bad (rdBy_bad _ _ HF.out) (((hK1.out hb2).on hb3).on hb9)⟩
          · have HF : Hid ((rdWithinOf lo hi) (.mk il wd ks q) = .ok v) := by show _ = _; simp only [rdWithinOf, ht, Res.bind_ok, hn, Nd.pos]; rw [if_pos (by omega)]
            have h2 : ¬ (hi : Int) < (v : Int) := by omega
            clear hn
            clear ht
            go_enter Tryz.func116, Tryz.ntmps116
            go_wp2_with (first | (go_at_call 56; refine (next_ok il wd ks q h).mono ?_; rintro e w1 ⟨a, c, rfl, hrow, hcap, hR1, hK1⟩) | (go_at_call 94; refine (text_bs il wd ks q _ _ _).mono ?_; rw [HT.out]; simp only [endOf, sval]; rintro e w2 ⟨rfl, hb2⟩; obtain ⟨b0, b1, b2, b3⟩ := cells4 (below_box hb2)) | (go_at_call 124; refine (number_bs _ _ hsl (hR1.out hb2).glob).mono ?_; rw [HN.out]; simp only [Option.getD, Option.isSome]; rintro e w3 ⟨rfl, hb3⟩; have b0' := (Below.kept hb3 (fun _ => False)).cell (by simp) b0; have b1' := (Below.kept hb3 (fun _ => False)).cell (by simp) b1; have b2' := (Below.kept hb3 (fun _ => False)).cell (by simp) b2; have b3' := (Below.kept hb3 (fun _ => False)).cell (by simp) b3))
            go_ret
            exact .good (rdBy_ok _ _ HF.out) rfl ((hK1.out hb2).on hb3) ((hR1.out hb2).below hb3)

theorem at_old {w : World} {o x : Obj} {b : Nat} (h : w.heap[b]? = some x) : (w.alloc o).heap[b]? = some x := by rw [heap_alloc_old w o (lt_of_some h)]; exact h
theorem set4_at {w : World} {b : Nat} {x0 x1 x2 x3 v0 v1 v2 v3 : Value} {t : TypeId} {f : Nat × Nat} (h : w.heap[b]? = some (.cells #[x0, x1, x2, x3] t f)) :
    ((((w.setCell ⟨b, 0, none⟩ v0).setCell ⟨b, 1, none⟩ v1).setCell ⟨b, 2, none⟩ v2).setCell ⟨b, 3, none⟩ v3).heap[b]? = some (.cells #[v0, v1, v2, v3] t f) := by
  rw [setCell_at (setCell_at (setCell_at (setCell_at h)))]; rfl
/-- The node that is read now, where there are k of its sort already. -/
theorem nextOf_ok {B : Nat} {w : World} {r : Nat} {l : List Nd} {p : Int} (il : Bool) (wd : List UInt8) (ks : List Nd) (q : Int) (k most : Nat) (hk : k < most) (h : Rs B w r (.mk il wd ks q :: l) p) :
    Calls Tryz.prog 64 #[.pointer (some ⟨r, 0, none⟩), .int .i64 k, .int .i64 most] w fun e w' => ∃ a c, e = .returned (.agg #[.bool il, .string (bs wd), .slice a ks.length c, .int .i64 q]) ∧ Row (fun b => b < B) w' a ks ∧ ks.length ≤ c ∧ Rs B w' r l p ∧ Kept (fun k => k = r) w w' := by
  have hk' : ¬ (most : Int) ≤ (k : Int) := by omega
  have h2 : Rs B (w.alloc (.cells #[.bool false, .string ⟨#[]⟩, .slice none 0 0, .int .i64 0] 66)) r (.mk il wd ks q :: l) p := h.below ((Below.refl _ _).alloc (Nat.le_refl _) _)
  have hlt := h.lt
  have hB := h.own
  go_enter Tryz.func64, Tryz.ntmps64
  go_wp2_with (go_at_call 56; refine (next_ok il wd ks q h2).mono ?_; rintro e w1 ⟨a, c, rfl, hrow, hcap, hR1, hK1⟩; have hbx := (hK1.block w.heap.size (by simp) (by omega)).trans (heap_alloc_new w _); obtain ⟨b0, b1, b2, b3⟩ := cells4 hbx; have hsz : w.heap.size < w1.heap.size := lt_of_some hbx; have hz : ∀ i, w1.frozen? ⟨w.heap.size, i, none⟩ = false := fun i => by simp [World.frozen?, hbx])
  have hkp : Kept (fun k => k = r) w (((((w1.setCell ⟨w.heap.size, 0, none⟩ (.bool il)).setCell ⟨w.heap.size, 1, none⟩ (.string (bs wd))).setCell ⟨w.heap.size, 2, none⟩ (.slice a ks.length c)).setCell ⟨w.heap.size, 3, none⟩ (.int .i64 q)).alloc (.cells #[.bool il, .string (bs wd), .slice a ks.length c, .int .i64 q] 66)) :=
    ((((((Kept.alloc w _ _).trans hK1).set_new _ _ _ (Nat.le_refl _)).set_new _ _ _ (Nat.le_refl _)).set_new _ _ _ (Nat.le_refl _)).set_new _ _ _ (Nat.le_refl _)).alloc_r _
  have hkp1 : Kept (fun k => k = w.heap.size) w1 (((((w1.setCell ⟨w.heap.size, 0, none⟩ (.bool il)).setCell ⟨w.heap.size, 1, none⟩ (.string (bs wd))).setCell ⟨w.heap.size, 2, none⟩ (.slice a ks.length c)).setCell ⟨w.heap.size, 3, none⟩ (.int .i64 q)).alloc (.cells #[.bool il, .string (bs wd), .slice a ks.length c, .int .i64 q] 66)) :=
    (((((Kept.refl (fun k => k = w.heap.size) w1).set_in _ _ _ rfl).set_in _ _ _ rfl).set_in _ _ _ rfl).set_in _ _ _ rfl).alloc_r _
  have hE := at_old (o := .cells #[.bool il, .string (bs wd), .slice a ks.length c, .int .i64 q] 66) (set4_at hbx (v0 := .bool il) (v1 := .string (bs wd)) (v2 := .slice a ks.length c) (v3 := .int .i64 q))
  generalize (World.alloc _ _) = W at hE hkp hkp1 ⊢
  obtain ⟨e0, e1, e2, e3⟩ := cells4 hE
  refine bodyPost_ret_by (v := .agg #[.bool il, .string (bs wd), .slice a ks.length c, .int .i64 q]) (by simp [results, Tryz.results64, go_sem, e0, e1, e2, e3]) rfl ?_
  exact ⟨a, c, rfl, hrow.mono fun b hb hlt' => ⟨hb, hkp1.block b hlt' (by omega)⟩, hcap, hR1.keep hkp1 (fun k e => by omega) (by omega), hkp⟩
theorem nextOf_long {B : Nat} {w : World} {r : Nat} {l : List Nd} {p : Int} (il : Bool) (wd : List UInt8) (ks : List Nd) (q : Int) (k most : Nat) (hk : most ≤ k) (h : Rs B w r (.mk il wd ks q :: l) p) :
    Calls Tryz.prog 64 #[.pointer (some ⟨r, 0, none⟩), .int .i64 k, .int .i64 most] w fun e w' => e = .panicked (flt 5 q) ∧ Kept (fun k => k = r) w w' := by
  have hk' : (most : Int) ≤ (k : Int) := by omega
  have h2 : Rs B (w.alloc (.cells #[.bool false, .string ⟨#[]⟩, .slice none 0 0, .int .i64 0] 66)) r (.mk il wd ks q :: l) p := h.below ((Below.refl _ _).alloc (Nat.le_refl _) _)
  go_enter Tryz.func64, Tryz.ntmps64
  go_wp2_with (first | (go_at_call 56; refine (next_ok il wd ks q h2).mono ?_; rintro e w1 ⟨a, c, rfl, hrow, hcap, hR1, hK1⟩) | (go_at_call 93; refine (giveUp_any _ _ _).mono ?_; rintro e w' ⟨rfl, hq⟩; have hq' := hq.symm; subst hq'))
  exact ⟨rfl, rfl, ((Kept.alloc w _ _).trans hK1).alloc_r _⟩

/-- Nothing may be left. -/
theorem end_rs {B : Nat} {w : World} {r : Nat} {l : List Nd} {p : Int} (h : Rs B w r l p) : Calls Tryz.prog 59 #[.pointer (some ⟨r, 0, none⟩)] w fun e w' => e = endOf (fun _ => .tuple #[]) (rdEnd l) ∧ Below w.heap.size w w' := by
  obtain ⟨a, c, hh, hrow, hc⟩ := h.row
  obtain ⟨c0, c1, z0, _⟩ := cells2 hh
  cases hrow with
  | nil =>
    go_enter Tryz.func59, Tryz.ntmps59
    go_wp2_with (go_at_call 62; refine (more_any _ _ _ _ _ c0).mono ?_; rintro e w' ⟨rfl, hq⟩; have hq' := hq.symm; subst hq')
    go_end0
    exact ⟨rfl, Below.refl _ _⟩
  | cons b o il wd ks q l a' c' hc' hS h0 h1 h2 h3 hk hr =>
    simp only [List.length_cons] at c0
    have hn : (0 : Int) < ((l.length + 1 : Nat) : Int) := by omega
    go_enter Tryz.func59, Tryz.ntmps59
    go_wp2_with (first | (go_at_call 62; refine (more_any _ _ _ _ _ c0).mono ?_; rintro e w' ⟨rfl, hq⟩; have hq' := hq.symm; subst hq') | (go_at_call 92; refine (refuse_any _ _ _ _ _ _ _).mono ?_; rintro e w9 ⟨rfl, hb9⟩))
    exact ⟨rfl, rfl, hb9⟩
end Go.Proofs.YtbpdhegfdmppgaaGreatDoor
