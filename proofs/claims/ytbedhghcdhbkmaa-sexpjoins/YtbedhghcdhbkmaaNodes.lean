/- THE CONTRACT of carlingref02.nodes: it tells what the machine tells. -/
import Derived.Test.YtbedhghcdhbkmaaSkip
import Derived.Test.YtbedhghcdhbkmaaKept
import Derived.OwnWalk
import Derived.Laws.DeepStrings4
namespace Go.Proofs.Ytbedhghcdhbkmaa
open Go.ChangeShapes Go.WideShapes Go.ChangeAt Go.RowKit

/-- How many bytes of a word stand ahead. -/
def wordL : List UInt8 → Nat
  | [] => 0
  | b :: r => if isPart b then 1 + wordL r else 0
theorem word_le : ∀ l : List UInt8, wordL l ≤ l.length
  | [] => Nat.le_refl _
  | b :: r => by have := word_le r; simp only [wordL, List.length_cons]; split <;> omega

theorem word_run : ∀ (l : List UInt8) (p : Nat) (wd : List UInt8) (t : Fr) (rs : List Fr), run l p false ⟨wd, t, rs⟩ = run (l.drop (wordL l)) (p + wordL l) false ⟨wd ++ l.take (wordL l), t, rs⟩
  | [], p, wd, t, rs => by simp [wordL]
  | b :: r, p, wd, t, rs => by
    by_cases hb : isPart b = true
    · have e : wordL (b :: r) = wordL r + 1 := by simp only [wordL, hb, if_true]; omega
      have ht : (St.mk wd t rs).take p b = .ok ⟨wd ++ [b], t, rs⟩ := by simp [St.take, hb]
      have h59 : (b == 59) = false := by
        rw [beq_eq_false_iff_ne]
        rintro rfl
        exact absurd hb (by decide)
      rw [run_ok ht, h59, word_run r (p + 1) (wd ++ [b]) t rs, e, List.drop_succ_cons, List.take_succ_cons, show p + (wordL r + 1) = p + 1 + wordL r by omega, List.append_assoc]
      rfl
    · have e : wordL (b :: r) = 0 := by simp [wordL, hb]
      rw [e]; simp

theorem word_stop : ∀ (l : List UInt8) (b : UInt8) (r : List UInt8), l.drop (wordL l) = b :: r → isPart b = false
  | [], b, r, h => by cases h
  | c :: l, b, r, h => by
    by_cases hb : isPart c = true
    · have e : wordL (c :: l) = wordL l + 1 := by simp only [wordL, hb, if_true]; omega
      rw [e, List.drop_succ_cons] at h
      exact word_stop l b r h
    · have e : wordL (c :: l) = 0 := by simp [wordL, hb]
      rw [e] at h
      cases h
      simpa using hb

theorem run_nil {p : Nat} {n : Bool} {st : St} : run [] p n st = st.finish p := by cases n <;> rfl

/-- A word that ends is put, whatever comes. -/
theorem word_put (l : List UInt8) (p : Nat) (wd : List UInt8) (t : Fr) (rs : List Fr) (hw : wd ≠ []) (hl : ∀ b r, l = b :: r → isPart b = false) :
    run l p false ⟨wd, t, rs⟩ = run l p false ⟨[], { t with kids := t.kids ++ [.mk false wd [] ((p : Int) - wd.length)] }, rs⟩ := by
  have e1 : (St.mk wd t rs).endWord p = ⟨[], { t with kids := t.kids ++ [.mk false wd [] ((p : Int) - wd.length)] }, rs⟩ := by simp [St.endWord, hw]
  have e2 : (St.mk [] { t with kids := t.kids ++ [.mk false wd [] ((p : Int) - wd.length)] } rs).endWord p = ⟨[], { t with kids := t.kids ++ [.mk false wd [] ((p : Int) - wd.length)] }, rs⟩ := by simp [St.endWord]
  cases l with
  | nil =>
    rw [run_nil, run_nil]
    unfold St.finish
    cases rs with
    | nil => simp only [e1, e2]
    | cons _ _ => rfl
  | cons b r =>
    have hb := hl b r rfl
    have h1 : (St.mk wd t rs).take p b = (St.mk [] { t with kids := t.kids ++ [.mk false wd [] ((p : Int) - wd.length)] } rs).take p b := by
      simp only [St.take, hb, e1, e2, Bool.false_eq_true, if_false]
    rcases h : (St.mk wd t rs).take p b with e | st'
    · rw [run_err h, run_err (h1 ▸ h)]
    · rw [run_ok h, run_ok (h1 ▸ h)]

/-- What the machine makes of a text from a place on, within so many brackets. -/
def From (s : ByteArray) (deep a : Nat) (l : List Nd) (O : (Fr → List Fr → Out)) : Prop :=
  ∀ t rs, rs.length = deep → run (s.data.toList.drop a) a false ⟨[], { t with kids := t.kids ++ l }, rs⟩ = O t rs

theorem From.skip {s : ByteArray} {deep a : Nat} {l : List Nd} {O : Fr → List Fr → Out} (h : From s deep a l O) : From s deep (skipTo s false a) l O := fun t rs hr => by
  rw [← h t rs hr, skip_run _ false a]
  unfold skipTo
  rw [List.drop_drop]

theorem From.word {s : ByteArray} {deep a : Nat} {l : List Nd} {O : Fr → List Fr → Out} (h : From s deep a l O) (hw : 0 < wordL (s.data.toList.drop a)) :
    From s deep (a + wordL (s.data.toList.drop a)) (l ++ [.mk false ((s.data.toList.drop a).take (wordL (s.data.toList.drop a))) [] a]) O := fun t rs hr => by
  have hle := word_le (s.data.toList.drop a)
  have hh := h t rs hr
  rw [word_run (s.data.toList.drop a) a [], List.nil_append, List.drop_drop] at hh
  have hlen : ((s.data.toList.drop a).take (wordL (s.data.toList.drop a))).length = wordL (s.data.toList.drop a) := by rw [List.length_take]; omega
  rw [word_put _ _ ((s.data.toList.drop a).take (wordL (s.data.toList.drop a))) _ _ (fun e => by rw [e] at hlen; simp at hlen; omega) (fun b r e => word_stop (s.data.toList.drop a) b r (by rw [List.drop_drop]; exact e)), hlen] at hh
  have e : (((a + wordL (s.data.toList.drop a) : Nat) : Int) - (wordL (s.data.toList.drop a) : Nat)) = (a : Int) := by omega
  rw [e] at hh
  rw [← hh, List.append_assoc]

theorem isPart40 : isPart 40 = false := by decide
theorem isPart41 : isPart 41 = false := by decide

theorem From.err {s : ByteArray} {deep a : Nat} {l : List Nd} {O : Fr → List Fr → Out} (h : From s deep a l O) (ha : a < s.size) (e : Int) (he : ∀ t rs, rs.length = deep → (St.mk [] t rs).take a s[a] = .error e) : ∀ t rs, rs.length = deep → O t rs = .err e a := fun t rs hr => by
  rw [← h t rs hr, drop_at s a ha]
  exact run_err (he _ rs hr)

theorem From.open_ {s : ByteArray} {deep a : Nat} {l : List Nd} {O : Fr → List Fr → Out} (h : From s deep a l O) (ha : a < s.size) (hx : s[a] = 40) (hd : deep < 24) :
    ∀ t rs, rs.length = deep → O t rs = run (s.data.toList.drop (a + 1)) (a + 1) false ⟨[], ⟨a, []⟩, { t with kids := t.kids ++ l } :: rs⟩ := fun t rs hr => by
  rw [← h t rs hr, drop_at s a ha, hx]
  have ht : (St.mk [] { t with kids := t.kids ++ l } rs).take a 40 = .ok ⟨[], ⟨a, []⟩, { t with kids := t.kids ++ l } :: rs⟩ := by
    simp only [St.take, isPart40]
    simp only [St.endWord, if_true, St.act]
    simp
    omega
  rw [run_ok ht]
  rfl

/-- Behind the bracket that closes. -/
theorem close_run {s : ByteArray} {p : Nat} (hp : p < s.size) (hx : s[p] = 41) (q : Nat) (m : List Nd) (t : Fr) (rs : List Fr) :
    run (s.data.toList.drop p) p false ⟨[], ⟨q, m⟩, t :: rs⟩ = run (s.data.toList.drop (p + 1)) (p + 1) false ⟨[], { t with kids := t.kids ++ [.mk true [] m q] }, rs⟩ := by
  rw [drop_at s p hp, hx]
  have ht : (St.mk [] ⟨q, m⟩ (t :: rs)).take p 41 = .ok ⟨[], { t with kids := t.kids ++ [.mk true [] m q] }, rs⟩ := by
    simp only [St.take, isPart41]
    simp [St.endWord, St.act]
  rw [run_ok ht]
  rfl

theorem ref_info37 : (Try.prog.info? 37).map (fun i => (i.zero, i.size, i.bytes)) = some (some (.agg #[.bool false, .string ⟨#[]⟩, .slice none 0 0, .int .i64 0]), 4, 56) := by kernel_rfl

def NodesPost (s : ByteArray) (deep a : Nat) (w : World) (e : Ending) (w' : World) : Prop :=
  Below w.heap.size w w' ∧ ∃ (x : Option Addr) (n c : Nat) (er : Int) (p : Nat), e = .returned (.tuple #[.slice x n c, .int .i64 er, .int .i64 p]) ∧ p ≤ s.size ∧
    ((er ≠ 0 ∧ ∀ t rs, rs.length = deep → run (s.data.toList.drop a) a false ⟨[], t, rs⟩ = .err er p) ∨
     (er = 0 ∧ ∃ l, n = l.length ∧ Row (fun b => w.heap.size ≤ b) w' x l ∧ a ≤ p ∧ p ≤ s.size ∧ (deep = 0 → p = s.size) ∧ (deep ≠ 0 → ∃ hp : p < s.size, s[p] = 41) ∧
      ∀ t rs, rs.length = deep → run (s.data.toList.drop a) a false ⟨[], t, rs⟩ = run (s.data.toList.drop p) p false ⟨[], { t with kids := t.kids ++ l }, rs⟩))

/-- What a round of nodes' loop goes on from. -/
def Mid (s : ByteArray) (deep a B : Nat) (w wr : World) (q : Nat) (o : Value) : Prop :=
  ∃ l, a ≤ q ∧ q ≤ s.size ∧ Kids (fun b => B ≤ b ∧ o.ownBlock ≠ some b) wr B o l ∧ Below B w wr ∧ l.length ≤ q ∧ From s deep q l fun t rs => run (s.data.toList.drop a) a false ⟨[], t, rs⟩

theorem Kids.form {S : Nat → Prop} {w : World} {B : Nat} {v : Value} {l : List Nd} (h : Kids S w B v l) : ∃ x c, v = .slice x l.length c := by
  obtain ⟨xs, ho, _⟩ := h
  rcases ho.2 with ⟨rfl, h0⟩ | ⟨g, cap, cur, rfl, _⟩
  · exact ⟨Option.none, 0, by rw [h0]⟩
  · exact ⟨_, _, rfl⟩

/-- Behind an append of one node to the nodes so far. -/
theorem mid_append {s : ByteArray} {deep a B : Nat} {w w1 w2 : World} {q' : Nat} {o : Value} {l : List Nd} {xs : List Value} {il : Bool} {wd : List UInt8} {ks : List Nd} {p : Int} {x : Option Addr} {c g cap : Nat} {ob : Obj}
    (hB : Below B w w1) (hBs : B ≤ w1.heap.size) (ho : w1.ownsRow B 37 4 o l.length xs) (hlay : Lay (fun b => B ≤ b ∧ o.ownBlock ≠ some b) w1 xs l) (hk : Row (fun b => B ≤ b ∧ o.ownBlock ≠ some b) w1 x ks)
    (hown : w2.ownsRow B 37 4 (.slice (some ⟨g, 0, none⟩) (l.length + 1) cap) (l.length + 1) (xs ++ [.bool il, .string (bs wd), .slice x ks.length c, .int .i64 p])) (hgrow : (w1.alloc ob).grownBy w2 o.ownBlock)
    (hat : o.ownBlock = some g ∨ g = w1.heap.size + 1) (haq : a ≤ q') (hq' : q' ≤ s.size) (hlen : l.length + 1 ≤ q')
    (hfrom : From s deep q' (l ++ [.mk il wd ks p]) fun t rs => run (s.data.toList.drop a) a false ⟨[], t, rs⟩) :
    Mid s deep a B w w2 q' (.slice (some ⟨g, 0, none⟩) (l.length + 1) cap) := by
  have hK : Kept (fun k => o.ownBlock = some k) w1 w2 := (Kept.alloc w1 ob _).trans (Kept.of_grown hgrow)
  have FK : ∀ b, (B ≤ b ∧ o.ownBlock ≠ some b) → b < w1.heap.size → (B ≤ b ∧ (Value.slice (some ⟨g, 0, none⟩) (l.length + 1) cap).ownBlock ≠ some b) ∧ w2.heap[b]? = w1.heap[b]? := fun b hb hlt => ⟨⟨hb.1, fun e => by
    simp only [Value.ownBlock, Option.some.injEq] at e
    subst e
    rcases hat with h | h
    · exact hb.2 h
    · omega⟩, hK.block b hlt hb.2⟩
  refine ⟨l ++ [.mk il wd ks p], haq, hq', ⟨_, by simpa using hown, (hlay.mono FK).snoc il wd ks p x c (hk.mono FK)⟩, ?_, by simpa using hlen, hfrom⟩
  exact hB.trans (hK.below hBs fun k hk => (ho.lt k hk).1)

theorem word_in : ∀ (l : List UInt8) (k : Nat), k < wordL l → ∃ b r, l.drop k = b :: r ∧ isPart b = true
  | [], k, h => by simp [wordL] at h
  | c :: l, k, h => by
    by_cases hb : isPart c = true
    · have e : wordL (c :: l) = wordL l + 1 := by simp only [wordL, hb, if_true]; omega
      match k with
      | 0 => exact ⟨c, l, rfl, hb⟩
      | k + 1 => exact word_in l k (by omega)
    · have e : wordL (c :: l) = 0 := by simp [wordL, hb]
      omega

theorem word_at {s : ByteArray} {Q k : Nat} (h : k < wordL (s.data.toList.drop Q)) : ∃ hk : Q + k < s.size, isPart s[Q + k] = true := by
  obtain ⟨b, r, he, hb⟩ := word_in _ _ h
  rw [List.drop_drop] at he
  by_cases hk : Q + k < s.size
  · rw [drop_at s _ hk] at he
    cases he
    exact ⟨hk, hb⟩
  · rw [drop_out s _ hk] at he
    cases he
theorem word_out {s : ByteArray} {Q : Nat} (hk : Q + wordL (s.data.toList.drop Q) < s.size) : isPart (s[Q + wordL (s.data.toList.drop Q)]'hk) = false := by
  refine word_stop (s.data.toList.drop Q) _ (s.data.toList.drop (Q + wordL (s.data.toList.drop Q) + 1)) ?_
  rw [List.drop_drop, drop_at s _ hk]

theorem slice_str (s : ByteArray) (Q k : Nat) (h : Q + k ≤ s.size) (w : World) : (Instr.slice 9 (.string s) (some (.int .i64 Q)) (some (.int .i64 (Q + k))) none).run Try.prog w = .ok (.string (s.extract Q (Q + k))) w := by
  rw [run_slice_string_if w 9 s .i64 .i64 _ _ Try.underlying9, if_pos (by omega), if_pos (by omega)]
  have e1 : ((Q : Int) + (k : Int)).toNat = Q + k := by omega
  rw [e1, Int.toNat_natCast]

theorem extract_bs (s : ByteArray) (a k : Nat) : s.extract a (a + k) = bs ((s.data.toList.drop a).take k) := by
  have h : (s.extract a (a + k)).data.toList = (s.data.toList.drop a).take k := by
    rw [ByteArray.data_extract, Array.toList_extract, List.extract_eq_take_drop, Nat.add_sub_cancel_left]
  rw [← h, bs_of]

theorem mid_word {s : ByteArray} {deep a B Q k : Nat} {w wr w3 : World} {o : Value} {l : List Nd} {xs : List Value} {g cap : Nat} {ob : Obj}
    (hB : Below B w wr) (hBs : B ≤ wr.heap.size) (ho : wr.ownsRow B 37 4 o l.length xs) (hlay : Lay (fun b => B ≤ b ∧ o.ownBlock ≠ some b) wr xs l)
    (hown : w3.ownsRow B 37 4 (.slice (some ⟨g, 0, none⟩) (l.length + 1) cap) (l.length + 1) (xs ++ [.bool false, .string (s.extract Q (Q + k)), .slice none 0 0, .int .i64 Q])) (hgrow : (wr.alloc ob).grownBy w3 o.ownBlock)
    (hat : o.ownBlock = some g ∨ g = wr.heap.size + 1) (haq : a ≤ Q) (hq' : Q + k ≤ s.size) (hlen : l.length ≤ Q)
    (hfrom : From s deep Q l fun t rs => run (s.data.toList.drop a) a false ⟨[], t, rs⟩) (hM : wordL (s.data.toList.drop Q) = k) (hk : 0 < k) :
    Mid s deep a B w w3 (Q + k) (.slice (some ⟨g, 0, none⟩) (l.length + 1) cap) := by
  have hw := hfrom.word (by omega)
  rw [hM] at hw
  rw [extract_bs] at hown
  exact mid_append (ks := []) hB hBs ho hlay (.nil none) hown hgrow hat (by omega) hq' (by omega) hw

theorem word_bad {s : ByteArray} {deep a Q : Nat} {l : List Nd} (hF : From s deep Q l fun t rs => run (s.data.toList.drop a) a false ⟨[], t, rs⟩) (hlt : Q < s.size) (hM : wordL (s.data.toList.drop Q) = 0) (hb : blankB s[Q] = false) (h4 : s[Q] ≠ 40 ∧ s[Q] ≠ 41) :
    ∀ t rs, rs.length = deep → run (s.data.toList.drop a) a false ⟨[], t, rs⟩ = .err 2 Q := hF.err hlt 2 fun t rs _ => by
  have hp : isPart s[Q] = false := by
    refine word_stop (s.data.toList.drop Q) _ (s.data.toList.drop (Q + 1)) ?_
    rw [hM]
    exact drop_at s Q hlt
  unfold blankB at hb
  simp only [Bool.or_eq_false_iff, beq_eq_false_iff_ne] at hb
  obtain ⟨⟨⟨⟨h9, h10⟩, h13⟩, h32⟩, h59⟩ := hb
  simp [St.take, hp, St.act, h4.1, h4.2, h9, h10, h13, h32, h59]

set_option maxRecDepth 100000 in
set_option maxHeartbeats 6400000 in
theorem nodes_any (s : ByteArray) (hs : s.size ≤ 20000) (n : Nat) : ∀ (a deep : Nat) (w : World), s.size - a ≤ n → a ≤ s.size → deep ≤ 24 →
    Calls Try.prog 21 #[.string s, .int .i64 a, .int .i64 deep] w (NodesPost s deep a w) := by
  induction n using Nat.strongRecOn with
  | _ n ih =>
    intro a deep w hn ha hd
    obtain ⟨i0, hi0, hz0, hz1, hz2⟩ := info_parts ref_info37
    obtain ⟨B, hB⟩ : ∃ B, w.heap.size = B := ⟨_, rfl⟩
    have HB : Hid (w.heap.size = B) := hB
    clear hB
    go_enter Try.func21, Try.ntmps21
    go_wp2_with fail
    go_loopw [1, 9] (fun i o wr => ∃ q : Nat, i = .int .i64 q ∧ Mid s deep a B w wr q o) (fun i _ _ => s.size - (intOf i).toNat)
    case atStart => exact ⟨a, rfl, [], Nat.le_refl _, ha, Kids.none _ _ _, Below.refl _ _, Nat.zero_le _, fun t rs _ => by rw [List.append_nil]⟩
    case round =>
      obtain ⟨q, rfl, l, hq0, hq1, hkids, hbw, hlq, hfrom⟩ := hrel
      have hsk := skipTo_le s false q hq1
      have hF2 := hfrom.skip
      have hskip := fun w => skip_any s q w hs hq1
      obtain ⟨Q, hQ⟩ : ∃ Q, skipTo s false q = Q := ⟨_, rfl⟩
      have hQb : ∀ h : Q < s.size, blankB s[Q] = false := fun h => by
        refine skip_stop (s.data.toList.drop q) false _ (s.data.toList.drop (Q + 1)) ?_
        rw [List.drop_drop, show q + skipL false (s.data.toList.drop q) = Q from hQ]
        exact drop_at s Q h
      have HQb : Hid (∀ h : Q < s.size, blankB s[Q] = false) := hQb
      clear hQb
      rw [hQ] at hsk hF2
      simp only [hQ] at hskip
      obtain ⟨hsk0, hsk1⟩ := hsk
      clear hQ hfrom
      have hBs : B ≤ wr.heap.size := by have := hbw.size; have := HB.out; omega
      obtain ⟨x9, c9, rfl⟩ := hkids.form
      have hret : Row (fun b => B ≤ b) wr x9 l := by
        obtain ⟨x, c, he, hr⟩ := hkids.rd (T := fun b => B ≤ b) (fun b hb => hb.1) (fun g hg => (by obtain ⟨xs, ho, _⟩ := hkids; exact (ho.lt g hg).1))
        cases he
        exact hr
      by_cases hlt : Q < s.size
      · have hne : ((Q : Int) == (s.size : Int)) = false := by rw [beq_eq_false_iff_ne]; omega
        by_cases h41 : s[Q] = 41
        · have e41 : ((s[Q].toNat : Int) == 41) = true := by rw [show (41 : Int) = ((41 : UInt8).toNat : Int) from rfl, beq_byte, h41]; rfl
          by_cases hd0 : deep = 0
          · subst hd0
            have HE : Hid (∀ t rs, rs.length = 0 → run (s.data.toList.drop a) a false ⟨[], t, rs⟩ = .err 3 Q) := hF2.err hlt 3 fun t rs hr => by
              rw [h41]
              have : rs = [] := List.eq_nil_of_length_eq_zero hr
              subst this
              rfl
            clear hF2 h41
            go_wp2_with (go_at_call 30; refine (hskip _).mono ?_; rintro e w' ⟨rfl, hq⟩; have hq' := hq.symm; subst hq')
            go_ret3
            exact ⟨by rw [HB.out]; exact hbw, _, _, _, 3, Q, rfl, hsk1, .inl ⟨by decide, HE.out⟩⟩
          · have hd1 : ((deep : Int) == 0) = false := by rw [beq_eq_false_iff_ne]; omega
            have H41 : Hid (s[Q] = 41) := h41
            clear h41
            go_wp2_with (go_at_call 30; refine (hskip _).mono ?_; rintro e w' ⟨rfl, hq⟩; have hq' := hq.symm; subst hq')
            go_ret3
            exact ⟨by rw [HB.out]; exact hbw, x9, l.length, c9, 0, Q, rfl, hsk1, .inr ⟨rfl, l, rfl, by rw [HB.out]; exact hret, by omega, hsk1, fun h => absurd h hd0, fun _ => ⟨hlt, H41.out⟩, fun t rs hr => (hF2 t rs hr).symm⟩⟩
        · have e41 : ((s[Q].toNat : Int) == 41) = false := by rw [show (41 : Int) = ((41 : UInt8).toNat : Int) from rfl, beq_byte]; simpa using h41
          by_cases h40 : s[Q] = 40
          · have e40 : ((s[Q].toNat : Int) == 40) = true := by rw [show (40 : Int) = ((40 : UInt8).toNat : Int) from rfl, beq_byte, h40]; rfl
            by_cases hd24 : deep = 24
            · have HE : Hid (∀ t rs, rs.length = deep → run (s.data.toList.drop a) a false ⟨[], t, rs⟩ = .err 4 Q) := hF2.err hlt 4 fun t rs hr => by
                rw [h40]
                simp [St.take, isPart40, St.endWord, St.act, hr, hd24]
              have e24 : ((deep : Int) == 24) = true := by rw [beq_iff_eq]; omega
              clear hF2 h40 h41
              go_wp2_with (go_at_call 30; refine (hskip _).mono ?_; rintro e w' ⟨rfl, hq⟩; have hq' := hq.symm; subst hq')
              go_ret3
              exact ⟨by rw [HB.out]; exact hbw, _, _, _, 4, Q, rfl, hsk1, .inl ⟨by decide, HE.out⟩⟩
            · have e24 : ((deep : Int) == 24) = false := by rw [beq_eq_false_iff_ne]; omega
              have hop := hF2.open_ hlt h40 (by omega)
              have HOP : Hid (∀ t rs, rs.length = deep → run (s.data.toList.drop a) a false ⟨[], t, rs⟩ = run (s.data.toList.drop (Q + 1)) (Q + 1) false ⟨[], ⟨Q, []⟩, { t with kids := t.kids ++ l } :: rs⟩) := hop
              have hrec := fun w => ih (s.size - (Q + 1)) (by omega) (Q + 1) (deep + 1) w (Nat.le_refl _) (by omega) (by omega)
              obtain ⟨xs, hown, hlay⟩ := hkids
              clear hop hF2 h40 h41 ih
              go_wp2_with (first | (go_at_call 30; refine (hskip _).mono ?_; rintro e w' ⟨rfl, hq⟩; have hq' := hq.symm; subst hq') | (go_at_call 21; refine (hrec _).mono ?_; rintro e w2 ⟨hb2, x2, n2, c2, er, p2, rfl, hp2, hcase⟩) | (at_builtin; refine wpList_append_lies _ rfl _ _ 23 rfl B 37 i0 _ 4 56 Try.underlying23 hi0 hz0 hz1 hz2 rfl (by omega) (.slice x9 l.length c9) l.length xs rfl ((own_kept hown (Below.kept hb2 fun _ => False) fun _ _ h => h).alloc _) ⟨w2.heap.size, 0, none⟩ 1 1 [.bool true, .string ⟨#[]⟩, .slice x2 n2 c2, .int .i64 Q] rfl rfl (World.news_of_block (cs := #[.bool true, .string ⟨#[]⟩, .slice x2 n2 c2, .int .i64 Q]) (t := 37) (fr := (0, 0)) (heap_alloc_new w2 _)) (by simp [Value.oneCell']) (by omega) (by unfold maxLen; omega) (by omega) (by have := hb2.size; simp; omega) (w2.heap.size + 1) (by simp) ?_; intro g cap w3 hown3 hgrow hat hltg))
              · have her : (er != 0) = true := by assumption
                go_ret3
                rcases hcase with ⟨hne0, hc⟩ | ⟨rfl, _⟩
                · exact ⟨by rw [HB.out]; exact hbw.trans (hb2.mono hBs), _, _, _, er, p2, rfl, hp2, .inl ⟨hne0, fun t rs hr => (HOP.out t rs hr).trans (hc _ _ (by simp [hr]))⟩⟩
                · exact absurd her (by decide)
              · have her : (er != 0) = false := by assumption
                rcases hcase with ⟨hne0, _⟩ | ⟨rfl, m, rfl, hrow, q1, q2, q3, q4, q5⟩
                · exact absurd her (by simpa using hne0)
                · obtain ⟨hp, hx⟩ := q4 (by omega)
                  go_roundw
                  case rel =>
                    refine ⟨p2 + 1, by go_num, ?_⟩
                    refine mid_append (wd := []) (ks := m) (hbw.trans (hb2.mono hBs)) (by have := hb2.size; omega) (own_kept hown (Below.kept hb2 fun _ => False) fun _ _ h => h) (hlay.mono fun b hb hl => ⟨hb, hb2.block b hl⟩) (hrow.mono fun b hb hl => ⟨⟨by omega, fun e => by have := (hown.lt b e).2; omega⟩, rfl⟩) hown3 hgrow hat (by omega) (by omega) (by omega) fun t rs hr => ?_
                    refine Eq.trans ?_ ((HOP.out t rs hr).trans ((q5 ⟨Q, []⟩ _ (by simp [hr])).trans (close_run hp hx Q _ _ rs))).symm
                    rw [List.append_assoc, List.nil_append]
                  case measure => simp [intOf]; omega
          · have e40 : ((s[Q].toNat : Int) == 40) = false := by rw [show (40 : Int) = ((40 : UInt8).toNat : Int) from rfl, beq_byte]; simpa using h40
            obtain ⟨xs, hown, hlay⟩ := hkids
            obtain ⟨M, hM⟩ : ∃ M, wordL (s.data.toList.drop Q) = M := ⟨_, rfl⟩
            have HM : Hid (wordL (s.data.toList.drop Q) = M) := hM
            have hQM : Q + M ≤ s.size := by have := word_le (s.data.toList.drop Q); rw [hM, List.length_drop, show s.data.toList.length = s.size from rfl] at this; omega
            have H4 : Hid (s[Q] ≠ 40 ∧ s[Q] ≠ 41) := ⟨h40, h41⟩
            clear hM h40 h41 ih
            go_wp2_with (go_at_call 30; refine (hskip _).mono ?_; rintro e w' ⟨rfl, hq⟩; have hq' := hq.symm; subst hq')
            go_loop [14] (fun i => ∃ k : Nat, i = .int .i64 k ∧ k ≤ M) (fun i => s.size - (intOf i).toNat)
            case atStart => exact ⟨0, rfl, Nat.zero_le _⟩
            case round =>
              obtain ⟨k, rfl, hkM⟩ := hrel
              by_cases hkl : k < M
              · obtain ⟨hk1, hk2⟩ := word_at (s := s) (Q := Q) (k := k) (by rw [HM.out]; exact hkl)
                have hk3 : (Q : Int) + (k : Int) < (s.size : Int) := by omega
                have hr : rPart (s[Q + k].toNat : Int) = true := by rw [rPart_byte]; exact hk2
                clear hk2
                go_wp2_with (go_at_call 25; refine (part_any _ _).mono ?_; rintro e w' ⟨rfl, hq⟩; have hq' := hq.symm; subst hq')
                go_round
                case rel => exact ⟨k + 1, by go_num, by omega⟩
                case measure => simp [intOf]; omega
              · obtain rfl : k = M := by omega
                have hsl := slice_str s Q k hQM
                by_cases hend : Q + k < s.size
                · have hr : rPart (s[Q + k].toNat : Int) = false := by
                    rw [rPart_byte]
                    have key : ∀ m (hm : Q + m < s.size), m = wordL (s.data.toList.drop Q) → isPart (s[Q + m]'hm) = false := by rintro m hm rfl; exact word_out hm
                    exact key k hend HM.out.symm
                  have hend' : (Q : Int) + (k : Int) < (s.size : Int) := by omega
                  by_cases hk0 : k = 0
                  · subst hk0
                    have hr0 : rPart (s[Q].toNat : Int) = false := hr
                    clear hr hsl
                    go_wp2_with (go_at_call 25; refine (part_any _ _).mono ?_; rintro e w' ⟨rfl, hq⟩; have hq' := hq.symm; subst hq')
                    go_ret3
                    exact ⟨by rw [HB.out]; exact hbw, _, _, _, 2, Q, rfl, hsk1, .inl ⟨by decide, word_bad hF2 hlt HM.out (HQb.out hlt) H4.out⟩⟩
                  · have hk1 : ((k : Int) == 0) = false := by rw [beq_eq_false_iff_ne]; omega
                    go_wp2_with (first | (go_at_call 25; refine (part_any _ _).mono ?_; rintro e w' ⟨rfl, hq⟩; have hq' := hq.symm; subst hq') | (at_builtin; refine wpList_append_lies _ rfl _ _ 23 rfl B 37 i0 _ 4 56 Try.underlying23 hi0 hz0 hz1 hz2 rfl (by omega) (.slice x9 l.length c9) l.length xs rfl (hown.alloc _) ⟨wr.heap.size, 0, none⟩ 1 1 [.bool false, .string (s.extract Q (Q + k)), .slice none 0 0, .int .i64 Q] rfl rfl (World.news_of_block (cs := #[.bool false, .string (s.extract Q (Q + k)), .slice none 0 0, .int .i64 Q]) (t := 37) (fr := (0, 0)) (heap_alloc_new wr _)) (by simp [Value.oneCell']) (by omega) (by unfold maxLen; omega) (by omega) (by simp; omega) (wr.heap.size + 1) (by simp) ?_; intro g cap w3 hown3 hgrow hat hltg))
                    go_roundw
                    case rel => exact ⟨Q + k, by go_num, mid_word hbw hBs hown hlay hown3 hgrow hat (by omega) (by omega) (by omega) hF2 HM.out (by omega)⟩
                    case measure => simp [intOf]; omega
                · have hend' : ¬ (Q : Int) + (k : Int) < (s.size : Int) := by omega
                  have hk1 : ((k : Int) == 0) = false := by rw [beq_eq_false_iff_ne]; omega
                  go_wp2_with (first | (go_at_call 25; refine (part_any _ _).mono ?_; rintro e w' ⟨rfl, hq⟩; have hq' := hq.symm; subst hq') | (at_builtin; refine wpList_append_lies _ rfl _ _ 23 rfl B 37 i0 _ 4 56 Try.underlying23 hi0 hz0 hz1 hz2 rfl (by omega) (.slice x9 l.length c9) l.length xs rfl (hown.alloc _) ⟨wr.heap.size, 0, none⟩ 1 1 [.bool false, .string (s.extract Q (Q + k)), .slice none 0 0, .int .i64 Q] rfl rfl (World.news_of_block (cs := #[.bool false, .string (s.extract Q (Q + k)), .slice none 0 0, .int .i64 Q]) (t := 37) (fr := (0, 0)) (heap_alloc_new wr _)) (by simp [Value.oneCell']) (by omega) (by unfold maxLen; omega) (by omega) (by simp; omega) (wr.heap.size + 1) (by simp) ?_; intro g cap w3 hown3 hgrow hat hltg))
                  go_roundw
                  case rel => exact ⟨Q + k, by go_num, mid_word hbw hBs hown hlay hown3 hgrow hat (by omega) (by omega) (by omega) hF2 HM.out (by omega)⟩
                  case measure => simp [intOf]; omega
      · obtain rfl : Q = s.size := by omega
        by_cases hd0 : deep = 0
        · subst hd0
          go_wp2_with (go_at_call 30; refine (hskip _).mono ?_; rintro e w' ⟨rfl, hq⟩; have hq' := hq.symm; subst hq')
          go_ret3
          exact ⟨by rw [HB.out]; exact hbw, x9, l.length, c9, 0, s.size, rfl, Nat.le_refl _, .inr ⟨rfl, l, rfl, by rw [HB.out]; exact hret, by omega, Nat.le_refl _, fun _ => rfl, fun h => absurd rfl h, fun t rs hr => (hF2 t rs hr).symm⟩⟩
        · have hd1 : (0 : Int) < (deep : Int) := by omega
          go_wp2_with (go_at_call 30; refine (hskip _).mono ?_; rintro e w' ⟨rfl, hq⟩; have hq' := hq.symm; subst hq')
          go_ret3
          refine ⟨by rw [HB.out]; exact hbw, _, _, _, 3, s.size, rfl, Nat.le_refl _, .inl ⟨by decide, fun t rs hr => ?_⟩⟩
          refine (hF2 t rs hr).symm.trans ?_
          rw [drop_out s s.size hlt, run_nil]
          cases rs with
          | nil => exact absurd hr.symm hd0
          | cons _ _ => rfl
end Go.Proofs.Ytbedhghcdhbkmaa
