/- CONTRACTS of needed and reckoned. -/
import Derived.Test.YtclajapdbphlbaaGHeap
import Derived.Test.YtclajapdbphlbaaISign
import Derived.Test.YtclajapdbphlbaaIDeed1
import Derived.Deep.Draws
namespace Go.Proofs.Ytclajapdbphlbaa
open Go.ChangeShapes Go.WideShapes Go.ChangeAt Go.RowKit

/-- What must be known. -/
def needR (K : Kws) (x : Ir) : List Int := if x.kind = 3 then [x.a, x.b] else if x.kind = 4 then (if (K x.a).getD 0 = 0 then [x.a, x.c] else [x.a, x.b]) else [x.a]
/-- The registers that may be looked for. -/
def RegOk (x : Ir) : Prop := ∀ r ∈ readsL x, 0 ≤ r ∧ r ≤ 100000
def WordOk (K : Kws) : Prop := ∀ r v, K r = some v → v < 4294967296
theorem WordOk.get {K : Kws} (h : WordOk K) (r : Int) : (K r).getD 0 < 4294967296 := by
  cases e : K r with
  | none => show 0 < _; decide
  | some v => exact h r v e
theorem need_all (K : Kws) {x : Ir} (hm : mayW x = true) : (needR K x).all (fun r => (K r).isSome) = (worth K x).isSome := by
  unfold needR
  by_cases h3 : x.kind = 3
  · rw [if_pos h3, worth_3 K h3]
    cases e1 : K x.a <;> cases e2 : K x.b <;> simp [e1, e2]
  rw [if_neg h3]
  by_cases h4 : x.kind = 4
  · rw [if_pos h4, worth_4 K h4]
    cases e : K x.a with
    | none => simp [e]
    | some p =>
      by_cases hp : p = 0
      · subst hp; simp [e]
      · simp [e, hp]
  rw [if_neg h4, worth_2 K (by have := mayW_kind hm; omega)]
  simp
theorem need_len (K : Kws) (x : Ir) : 0 < (needR K x).length ∧ (needR K x).length ≤ 2 := by
  unfold needR
  split
  · simp
  split
  · split <;> simp
  · simp
theorem need_reads (K : Kws) {x : Ir} (hm : mayW x = true) (h : RegOk x) : ∀ r ∈ needR K x, 0 ≤ r ∧ r ≤ 100000 := by
  have hk := mayW_kind hm
  intro r hr
  refine h r ?_
  unfold needR at hr
  unfold readsL
  by_cases h3 : x.kind = 3
  · rw [if_pos h3] at hr; rw [if_neg (by omega), if_pos h3]; exact hr
  rw [if_neg h3] at hr
  by_cases h4 : x.kind = 4
  · rw [if_pos h4] at hr; rw [if_neg (by omega), if_neg h3, if_pos h4]
    split at hr
    · simp only [List.mem_cons, List.not_mem_nil, or_false] at hr ⊢; omega
    · simp only [List.mem_cons, List.not_mem_nil, or_false] at hr ⊢; omega
  rw [if_neg h4] at hr; rw [if_pos (by omega)]; exact hr
theorem new_ints' (w : World) (o1 : Obj) (l : List Int) (t : TypeId) : kInt.row ((w.alloc o1).alloc (.cells (l.map (Value.int .i64)).toArray t)) (fun b => w.heap.size ≤ b) (some ⟨w.heap.size + 1, 0, none⟩) l := by
  have hb : ((w.alloc o1).alloc (.cells (l.map (Value.int .i64)).toArray t)).heap[w.heap.size + 1]? = some (.cells (l.map (Value.int .i64)).toArray t) := by
    have := heap_alloc_new (w.alloc o1) (.cells (l.map (Value.int .i64)).toArray t)
    simpa using this
  exact ints_new (by omega) l _ _ _ 0 hb (fun j hj => by simp [hj])
set_option maxRecDepth 100000 in
set_option maxHeartbeats 1000000 in
theorem needed_any {b n : Nat} {K : Kws} (x : Ir) (a : Option Addr) (c : Nat) (w : World) (hm : mayW x = true) (hr : RegOk x) (hk : Kno w b n K) (hw : WordOk K) :
    Calls Try.prog 39 #[irV x a c, .map (some b)] w fun e w' => (∃ cc, e = .returned (.slice (some ⟨w.heap.size + 1, 0, none⟩) (needR K x).length cc)) ∧ kInt.row w' (fun g => w.heap.size ≤ g) (some ⟨w.heap.size + 1, 0, none⟩) (needR K x) ∧ Below w.heap.size w w' := by
  have hkx := hk.keep (w' := w.alloc (irB x a c)) (heap_alloc_old _ _ hk.lt)
  have hmk := mayW_kind hm
  unfold needR
  obtain ⟨kd, op, d, xa, xb, xc, nn, nm, ag⟩ := x
  unfold irV
  simp only [RegOk, readsL] at *
  rcases hmk with rfl | rfl | rfl
  · go_enter Try.func39, Try.ntmps39
    go_wp2
    go_ret
    exact ⟨⟨_, rfl⟩, new_ints' w _ [xa] 3, bl_alloc (bl_alloc (Below.refl _ _) _) _⟩
  · go_enter Try.func39, Try.ntmps39
    go_wp2
    go_ret
    exact ⟨⟨_, rfl⟩, new_ints' w _ [xa, xb] 3, bl_alloc (bl_alloc (Below.refl _ _) _) _⟩
  · have hra := hr xa (by simp)
    have hl := hkx.look hra.1 hra.2
    have hg := hw.get xa
    generalize (K xa).getD 0 = p at hl hg ⊢
    by_cases hp : p = 0
    · subst hp
      rw [if_neg (by omega), if_pos rfl, if_pos rfl]
      go_enter Try.func39, Try.ntmps39
      go_wp2
      go_ret
      exact ⟨⟨_, rfl⟩, new_ints' w _ [xa, xc] 3, bl_alloc (bl_alloc (Below.refl _ _) _) _⟩
    · rw [if_neg (by omega), if_pos rfl, if_neg hp]
      have hp' : ((p : Int) == 0) = false := by simp; omega
      go_enter Try.func39, Try.ntmps39
      go_wp2
      go_ret
      exact ⟨⟨_, rfl⟩, new_ints' w _ [xa, xb] 3, bl_alloc (bl_alloc (Below.refl _ _) _) _⟩
set_option maxRecDepth 100000 in
set_option maxHeartbeats 1000000 in
theorem reckoned_any {b n v : Nat} {K : Kws} (x : Ir) (a : Option Addr) (c : Nat) (w : World) (hm : mayW x = true) (hr : RegOk x) (hk : Kno w b n K) (hw : WordOk K) (hv : worth K x = some v) :
    Calls Try.prog 40 #[irV x a c, .map (some b)] w fun e w' => e = .returned (.int .u32 (v : Int)) ∧ Below w.heap.size w w' := by
  have hkx := hk.keep (w' := w.alloc (irB x a c)) (heap_alloc_old _ _ hk.lt)
  have hmk := mayW_kind hm
  obtain ⟨kd, op, d, xa, xb, xc, nn, nm, ag⟩ := x
  unfold irV
  simp only [RegOk, readsL] at *
  rcases hmk with rfl | rfl | rfl
  · have hra := hr xa (by simp)
    have hl := hkx.look hra.1 hra.2
    rw [worth_2 K rfl] at hv
    simp only at hv
    rw [hv] at hl
    simp only [Option.getD_some] at hl
    go_enter Try.func40, Try.ntmps40
    go_wp2
    go_ret
    exact ⟨rfl, bl_alloc (Below.refl _ _) _⟩
  · have hra := hr xa (by simp)
    have hrb := hr xb (by simp)
    have hla := hkx.look hra.1 hra.2
    have hlb := hkx.look hrb.1 hrb.2
    rw [worth_3 K rfl] at hv
    simp only at hv
    go_enter Try.func40, Try.ntmps40
    go_upto_region 3 with fail
    obtain ⟨p, ep⟩ : ∃ p, K xa = some p := by
      cases e : K xa with
      | none => rw [e] at hv; cases hv
      | some p => exact ⟨p, rfl⟩
    obtain ⟨q, eq⟩ : ∃ q, K xb = some q := by
      cases e : K xb with
      | none => rw [ep, e] at hv; cases hv
      | some q => exact ⟨q, rfl⟩
    rw [ep, eq] at hv
    rw [ep] at hla
    rw [eq] at hlb
    simp only [Option.getD_some, Option.bind_some, Option.some.injEq] at hla hlb hv
    have hp := hw xa p ep
    have hq := hw xb q eq
    have HO : Hid (opz op (p : Int) (q : Int) = (v : Int)) := by show _ = _; rw [← hv]; exact (opz_bd op p q hp hq).symm
    have hop := fun w1 => op_any op (p : Int) (q : Int) (by omega) (by omega) (by omega) (by omega) w1
    rw [HO.out] at hop
    clear hv ep eq
    go_wp2_with (first | (go_at_call 63; refine (hop _).mono ?_; rintro e w' ⟨rfl, rfl⟩))
    go_ret
    exact ⟨rfl, bl_alloc (Below.refl _ _) _⟩
  · have hra := hr xa (by simp)
    have hrb := hr xb (by simp)
    have hrc := hr xc (by simp)
    have hla := hkx.look hra.1 hra.2
    have hlb := hkx.look hrb.1 hrb.2
    have hlc := hkx.look hrc.1 hrc.2
    rw [worth_4 K rfl] at hv
    simp only at hv
    have HO : Hid ((if (((K xa).getD 0 : Nat) : Int) = 0 then (((K xc).getD 0 : Nat) : Int) else (((K xb).getD 0 : Nat) : Int)) = (v : Int)) := by
      show _ = _
      cases e : K xa with
      | none => rw [e] at hv; cases hv
      | some p =>
        rw [e] at hv
        simp only [Option.bind_some, Option.getD_some] at hv ⊢
        by_cases hp : p = 0
        · rw [if_pos hp] at hv; rw [if_pos (by omega), hv]; rfl
        · rw [if_neg hp] at hv; rw [if_neg (by omega), hv]; rfl
    have hsel := fun w1 => sel_any (((K xa).getD 0 : Nat) : Int) (((K xb).getD 0 : Nat) : Int) (((K xc).getD 0 : Nat) : Int) w1
    rw [HO.out] at hsel
    clear hv HO
    generalize (K xa).getD 0 = p at hla hsel
    generalize (K xb).getD 0 = q at hlb hsel
    generalize (K xc).getD 0 = r at hlc hsel
    go_enter Try.func40, Try.ntmps40
    go_upto_region 6 with fail
    go_wp2_with (first | (go_at_call 64; refine (hsel _).mono ?_; rintro e w' ⟨rfl, rfl⟩))
    go_ret
    exact ⟨rfl, bl_alloc (Below.refl _ _) _⟩
end Go.Proofs.Ytclajapdbphlbaa
