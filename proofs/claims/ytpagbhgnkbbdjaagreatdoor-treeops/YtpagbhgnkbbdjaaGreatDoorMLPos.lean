/- WHERE SOMETHING IS WRONG with nodes: at a place of one of them, by ErrForm or ErrLong. Plain Lean. -/
import Derived.Test.YtpagbhgnkbbdjaaGreatDoorM23
import Derived.Test.YtpagbhgnkbbdjaaGreatDoorM14
namespace Go.Proofs.YtpagbhgnkbbdjaaGreatDoor

mutual
/-- All places lie from 0 to N. -/
def Nd.pin (N : Int) : Nd → Prop
  | .mk _ _ ks p => (0 ≤ p ∧ p ≤ N) ∧ pinL N ks
def pinL (N : Int) : List Nd → Prop
  | [] => True
  | x :: l => Nd.pin N x ∧ pinL N l
end
theorem lie_pin {s : ByteArray} {lo hi : Nat} {l : List Nd} (h : Lie s lo l hi) : pinL s.size l := by
  induction h with
  | nil => rw [pinL]; trivial
  | word => rename_i ih; rw [pinL, Nd.pin, pinL]; exact ⟨⟨⟨by omega, by omega⟩, trivial⟩, ih⟩
  | list => rename_i ih1 ih2; rw [pinL, Nd.pin]; exact ⟨⟨⟨by omega, by omega⟩, ih1⟩, ih2⟩
/-- What is wrong is told so. -/
def Res.fair {α : Type} (N : Int) (r : Res α) : Prop := ∀ c p, r = .bad c p → (c = 5 ∨ c = 6) ∧ 0 ≤ p ∧ p ≤ N
section
variable {N : Int}
theorem fair_ok {α : Type} (x : α) : (Res.ok x).fair N := fun c p h => by cases h
theorem fair_6 {α : Type} {p : Int} (h : 0 ≤ p ∧ p ≤ N) : (Res.bad 6 p : Res α).fair N := fun c q e => by cases e; exact ⟨.inr rfl, h⟩
theorem fair_5 {α : Type} {p : Int} (h : 0 ≤ p ∧ p ≤ N) : (Res.bad 5 p : Res α).fair N := fun c q e => by cases e; exact ⟨.inl rfl, h⟩
theorem Res.fair.bind {α β : Type} {r : Res α} {f : α → Res β} (h : r.fair N) (k : ∀ x, r = .ok x → (f x).fair N) : (r.bind f).fair N := by
  cases r with
  | ok x => exact k x rfl
  | bad c p => intro c' p' e; cases e; exact h c p rfl
theorem pin_pos {n : Nd} (h : Nd.pin N n) : 0 ≤ n.pos ∧ n.pos ≤ N := by
  obtain ⟨il, wd, ks, p⟩ := n
  rw [Nd.pin] at h
  exact h.1
theorem fair_text {n : Nd} (h : Nd.pin N n) : (rdText n).fair N := by
  obtain ⟨il, wd, ks, p⟩ := n
  rw [Nd.pin] at h
  rw [rdText]
  split
  · exact fair_6 h.1
  · exact fair_ok _
theorem fair_enter {n : Nd} (h : Nd.pin N n) : (rdEnter n).fair N := by
  obtain ⟨il, wd, ks, p⟩ := n
  rw [Nd.pin] at h
  rw [rdEnter]
  split
  · exact fair_6 h.1
  · exact fair_ok _
theorem enter_pin {n : Nd} {x : List Nd × Int} (hx : rdEnter n = .ok x) (h : Nd.pin N n) : pinL N x.1 ∧ 0 ≤ x.2 ∧ x.2 ≤ N := by
  rw [okEnter hx, Nd.pin] at h
  exact ⟨h.2, h.1⟩
theorem fair_name {n : Nd} (h : Nd.pin N n) : (rdNameOf n).fair N := (fair_text h).bind fun s _ => by
  show (if isName s then _ else _ : Res _).fair N
  split
  · exact fair_ok _
  · exact fair_6 (pin_pos h)
theorem fair_full {n : Nd} (h : Nd.pin N n) : (rdFullOf n).fair N := (fair_text h).bind fun s _ => by
  show (if isFull s then _ else _ : Res _).fair N
  split
  · exact fair_ok _
  · exact fair_6 (pin_pos h)
theorem fair_label {n : Nd} (h : Nd.pin N n) : (rdLabelOf n).fair N := (fair_text h).bind fun s _ => by
  show (if s = [112, 117, 98] then _ else _ : Res _).fair N
  split
  · exact fair_ok _
  · split
    · exact fair_ok _
    · exact fair_6 (pin_pos h)
theorem fair_within {lo hi : Nat} {n : Nd} (h : Nd.pin N n) : (rdWithinOf lo hi n).fair N := (fair_text h).bind fun s _ => by
  show (match num s with | some v => if lo ≤ v ∧ v ≤ hi then Res.ok v else .bad 6 n.pos | none => .bad 6 n.pos : Res Nat).fair N
  split
  · split
    · exact fair_ok _
    · exact fair_6 (pin_pos h)
  · exact fair_6 (pin_pos h)
theorem fair_skip {w : List UInt8} {n : Nd} (h : Nd.pin N n) : (rdSkipOf w n).fair N := (fair_text h).bind fun s _ => by
  show (if s = w then _ else _ : Res _).fair N
  split
  · exact fair_ok _
  · exact fair_6 (pin_pos h)
theorem fair_next {p : Int} {l : List Nd} (hp : 0 ≤ p ∧ p ≤ N) : (rdNext p l).fair N := by
  cases l with
  | nil => exact fair_6 hp
  | cons n r => exact fair_ok _
theorem fair_by {α : Type} {f : Nd → Res α} {p : Int} {l : List Nd} (hp : 0 ≤ p ∧ p ≤ N) (hl : pinL N l) (hf : ∀ n, Nd.pin N n → (f n).fair N) : (rdBy f p l).fair N := by
  cases l with
  | nil => exact fair_6 hp
  | cons n r =>
    rw [pinL] at hl
    show ((f n).bind fun y => Res.ok (y, r)).fair N
    exact (hf n hl.1).bind fun _ _ => fair_ok _
theorem by_pin {α : Type} {f : Nd → Res α} {p : Int} {l : List Nd} {x : α × List Nd} (h : rdBy f p l = .ok x) (hl : pinL N l) : pinL N x.2 := by
  obtain ⟨n, rfl, _⟩ := okBy h
  rw [pinL] at hl
  exact hl.2
theorem fair_end {l : List Nd} (hl : pinL N l) : (rdEnd l).fair N := by
  cases l with
  | nil => exact fair_ok _
  | cons n r => rw [pinL] at hl; exact fair_6 (pin_pos hl.1)

theorem rdN_less (p : Int) : ∀ (j : Nat) (l : List Nd) (x : List Ex × List Nd), rdN p j l = .ok x → pinL N l → pinL N x.2
  | 0, l, x, h, hl => by rw [rdN] at h; cases h; exact hl
  | j + 1, [], x, h, _ => by rw [rdN] at h; cases h
  | j + 1, n :: r, x, h, hl => by
    rw [rdN] at h
    obtain ⟨e, _, h⟩ := okBind h
    obtain ⟨y, hy, h⟩ := okBind h
    cases h
    rw [pinL] at hl
    exact rdN_less p j r y hy hl.2
mutual
theorem fair_E : ∀ n : Nd, Nd.pin N n → (rdE n).fair N
  | .mk true wd ks p, h => by
    rw [Nd.pin] at h
    rw [rdE]
    split
    · exact fair_6 h.1
    · exact fair_parts p ks h.1 h.2
  | .mk false wd ks p, h => by
    rw [Nd.pin] at h
    rw [rdE]
    split
    · exact fair_6 h.1
    · split
      · exact fair_ok _
      · split
        · exact fair_ok _
        · exact fair_6 h.1
theorem fair_parts : ∀ (p : Int) (ks : List Nd), 0 ≤ p ∧ p ≤ N → pinL N ks → (rdParts p ks).fair N
  | p, [], hp, _ => by rw [rdParts]; exact fair_6 hp
  | p, [first], hp, h => by
    rw [pinL] at h
    rw [rdParts]
    refine (fair_text h.1).bind fun s _ => ?_
    split
    · exact fair_6 hp
    · split
      · exact (fair_N p 3 [] hp h.2).bind fun x hx => (fair_end (rdN_less p _ _ _ hx h.2)).bind fun _ _ => fair_ok _
      · split
        · exact fair_6 hp
        · split
          · exact fair_6 (pin_pos h.1)
          · exact (fair_N p 2 [] hp h.2).bind fun x hx => (fair_end (rdN_less p _ _ _ hx h.2)).bind fun _ _ => fair_ok _
  | p, first :: nm :: r, hp, h => by
    rw [pinL] at h
    have h2 : pinL N (nm :: r) := h.2
    have h3 := h.2
    rw [pinL] at h3
    rw [rdParts]
    refine (fair_text h.1).bind fun s _ => ?_
    split
    · exact (fair_name h3.1).bind fun n _ => (fair_N p 1 r hp h3.2).bind fun x hx => (fair_end (rdN_less p _ _ _ hx h3.2)).bind fun _ _ => fair_ok _
    · split
      · exact (fair_N p 3 (nm :: r) hp h2).bind fun x hx => (fair_end (rdN_less p _ _ _ hx h2)).bind fun _ _ => fair_ok _
      · split
        · exact (fair_full h3.1).bind fun n _ => (fair_args 0 r h3.2).bind fun x hx => fair_ok _
        · split
          · exact fair_6 (pin_pos h.1)
          · exact (fair_N p 2 (nm :: r) hp h2).bind fun x hx => (fair_end (rdN_less p _ _ _ hx h2)).bind fun _ _ => fair_ok _
theorem fair_N : ∀ (p : Int) (j : Nat) (l : List Nd), 0 ≤ p ∧ p ≤ N → pinL N l → (rdN p j l).fair N
  | p, 0, l, _, _ => by rw [rdN]; exact fair_ok _
  | p, j + 1, [], hp, _ => by rw [rdN]; exact fair_6 hp
  | p, j + 1, n :: r, hp, h => by
    rw [pinL] at h
    rw [rdN]
    exact (fair_E n h.1).bind fun e _ => (fair_N p j r hp h.2).bind fun _ _ => fair_ok _
theorem fair_args : ∀ (j : Nat) (l : List Nd), pinL N l → (rdArgs j l).fair N
  | j, [], _ => by rw [rdArgs]; exact fair_ok _
  | j, n :: r, h => by
    rw [pinL] at h
    rw [rdArgs]
    split
    · exact fair_5 (pin_pos h.1)
    · exact (fair_E n h.1).bind fun e _ => (fair_args (j + 1) r h.2).bind fun _ _ => fair_ok _
end
mutual
theorem fair_St : ∀ (p : Int) (ks : List Nd), 0 ≤ p ∧ p ≤ N → pinL N ks → (rdSt p ks).fair N
  | p, [], hp, _ => by rw [rdSt]; exact fair_6 hp
  | p, first :: r, hp, h => by
    rw [pinL] at h
    rw [rdSt.eq_def]
    dsimp only
    refine (fair_text h.1).bind fun s _ => ?_
    split
    · exact (fair_by hp h.2 fun _ => fair_name).bind fun a ha => (fair_by hp (by_pin ha h.2) fair_E).bind fun b hb => (fair_end (by_pin hb (by_pin ha h.2))).bind fun _ _ => fair_ok _
    · split
      · exact (fair_by hp h.2 fun _ => fair_name).bind fun a ha => (fair_by hp (by_pin ha h.2) fair_E).bind fun b hb => (fair_end (by_pin hb (by_pin ha h.2))).bind fun _ _ => fair_ok _
      · split
        · exact (fair_by hp h.2 fun _ => fair_name).bind fun a ha => (fair_by hp (by_pin ha h.2) fun _ => fair_label).bind fun b hb => (fair_by hp (by_pin hb (by_pin ha h.2)) fun _ => fair_within).bind fun c hc => (fair_end (by_pin hc (by_pin hb (by_pin ha h.2)))).bind fun _ _ => fair_ok _
        · split
          · exact (fair_by hp h.2 fun _ => fair_name).bind fun a ha => (fair_by hp (by_pin ha h.2) fair_E).bind fun b hb => (fair_by hp (by_pin hb (by_pin ha h.2)) fair_E).bind fun c hc => (fair_end (by_pin hc (by_pin hb (by_pin ha h.2)))).bind fun _ _ => fair_ok _
          · split
            · cases r with
              | nil => exact fair_6 hp
              | cons n1 r1 =>
                have h1 := h.2
                rw [pinL] at h1
                refine (fair_name h1.1).bind fun a _ => ?_
                cases r1 with
                | nil => exact fair_6 hp
                | cons n2 r2 =>
                  have h2 := h1.2
                  rw [pinL] at h2
                  refine (fair_within h2.1).bind fun b _ => ?_
                  cases r2 with
                  | nil => exact fair_6 hp
                  | cons n3 r3 =>
                    have h3 := h2.2
                    rw [pinL] at h3
                    exact (fair_within h3.1).bind fun c _ => (fair_Ss r3 h3.2).bind fun _ _ => fair_ok _
            · split
              · cases r with
                | nil => exact fair_6 hp
                | cons n1 r1 =>
                  have h1 := h.2
                  rw [pinL] at h1
                  refine (fair_E n1 h1.1).bind fun a _ => ?_
                  cases r1 with
                  | nil => exact fair_6 hp
                  | cons n2 r2 =>
                    have h2 := h1.2
                    rw [pinL] at h2
                    refine (fair_Block n2 h2.1).bind fun b _ => ?_
                    cases r2 with
                    | nil => exact fair_6 hp
                    | cons n3 r3 =>
                      have h3 := h2.2
                      rw [pinL] at h3
                      exact (fair_Block n3 h3.1).bind fun c _ => (fair_end h3.2).bind fun _ _ => fair_ok _
              · exact fair_6 (pin_pos h.1)
theorem fair_Block : ∀ n : Nd, Nd.pin N n → (rdBlock n).fair N
  | .mk il wd ks p, h => by
    rw [Nd.pin] at h
    rw [rdBlock]
    split
    · exact fair_6 h.1
    · exact fair_Ss ks h.2
theorem fair_Ss : ∀ l : List Nd, pinL N l → (rdSs l).fair N
  | [], _ => by rw [rdSs]; exact fair_ok _
  | .mk il wd ks p :: r, h => by
    rw [pinL, Nd.pin] at h
    rw [rdSs]
    refine Res.fair.bind ?_ fun s _ => (fair_Ss r h.2).bind fun _ _ => fair_ok _
    rw [rdS]
    split
    · exact fair_6 h.1.1
    · exact fair_St p ks h.1.1 h.1.2
end
theorem fair_param {p : Int} {l : List Nd} (hp : 0 ≤ p ∧ p ≤ N) (h : pinL N l) : (rdParam p l).fair N := by
  rw [rdParam]
  refine (fair_by hp h fun _ => fair_name).bind fun a ha => (fair_by hp (by_pin ha h) fun _ => fair_label).bind fun b hb => ?_
  have h2 := by_pin hb (by_pin ha h)
  split
  · exact fair_ok _
  · rename_i n r e
    rw [e, pinL] at h2
    exact (fair_within h2.1).bind fun c _ => (fair_end h2.2).bind fun _ _ => fair_ok _
theorem fair_params : ∀ (j : Nat) (l : List Nd), pinL N l → (rdParams j l).fair N
  | j, [], _ => by rw [rdParams]; exact fair_ok _
  | j, n :: r, h => by
    rw [pinL] at h
    rw [rdParams]
    split
    · exact fair_5 (pin_pos h.1)
    · exact (fair_enter h.1).bind fun x hx => (fair_param (enter_pin hx h.1).2 (enter_pin hx h.1).1).bind fun a _ => (fair_params (j + 1) r h.2).bind fun _ _ => fair_ok _
theorem fair_body (p : Int) (hp : 0 ≤ p ∧ p ≤ N) : ∀ l : List Nd, pinL N l → (rdBody p l).fair N
  | [], _ => by rw [rdBody]; exact fair_6 hp
  | n :: r, h => by
    rw [pinL] at h
    rw [rdBody]
    refine (fair_enter h.1).bind fun x hx => (fair_next (enter_pin hx h.1).2).bind fun y hy => ?_
    have hk := (enter_pin hx h.1).1
    have hk2 := hk
    rw [okNext hy, pinL] at hk2
    refine (fair_text hk2.1).bind fun s _ => ?_
    split
    · exact (fair_by (enter_pin hx h.1).2 hk2.2 fair_E).bind fun e he => (fair_end (by_pin he hk2.2)).bind fun _ _ => fair_ok _
    · exact (fair_St x.2 x.1 (enter_pin hx h.1).2 hk).bind fun a _ => (fair_body p hp r h.2).bind fun _ _ => fair_ok _
theorem body_pin (p : Int) : ∀ (l : List Nd) (z : List Sm × Ex × List Nd), rdBody p l = .ok z → pinL N l → pinL N z.2.2
  | [], z, h, _ => by rw [rdBody] at h; cases h
  | n :: r, z, h, hl => by
    rw [pinL] at hl
    rw [rdBody] at h
    obtain ⟨x, hx, h⟩ := okBind h
    obtain ⟨y, hy, h⟩ := okBind h
    obtain ⟨s, hs, h⟩ := okBind h
    split at h
    · obtain ⟨e, he, h⟩ := okBind h
      obtain ⟨u, hu, h⟩ := okBind h
      cases h
      exact hl.2
    · obtain ⟨a, ha, h⟩ := okBind h
      obtain ⟨b, hb, h⟩ := okBind h
      cases h
      exact body_pin p r b hb hl.2
theorem fair_func {n : Nd} (h : Nd.pin N n) : (rdFunc n).fair N := by
  rw [rdFunc]
  refine (fair_enter h).bind fun x hx => ?_
  have hp := (enter_pin hx h).2
  have h0 := (enter_pin hx h).1
  refine (fair_by hp h0 fun _ => fair_skip).bind fun a ha => ?_
  have h1 := by_pin ha h0
  refine (fair_by hp h1 fun _ => fair_name).bind fun b hb => ?_
  have h2 := by_pin hb h1
  refine (fair_by hp h2 fun _ => fair_enter).bind fun c hc => ?_
  have h3 := by_pin hc h2
  obtain ⟨n3, e3, k3⟩ := okBy hc
  rw [e3, pinL] at h2
  refine (fair_params 0 _ (enter_pin k3 h2.1).1).bind fun ps _ => ?_
  refine (fair_by hp h3 fun _ => fair_label).bind fun d hd => ?_
  have h4 := by_pin hd h3
  exact (fair_body x.2 hp _ h4).bind fun z hz => (fair_end (body_pin _ _ z hz h4)).bind fun _ _ => fair_ok _
theorem fair_funcs : ∀ (j : Nat) (l : List Nd), pinL N l → (rdFuncs j l).fair N
  | j, [], _ => by rw [rdFuncs]; exact fair_ok _
  | j, n :: r, h => by
    rw [pinL] at h
    rw [rdFuncs]
    split
    · exact fair_5 (pin_pos h.1)
    · exact (fair_func h.1).bind fun x _ => (fair_funcs (j + 1) r h.2).bind fun _ _ => fair_ok _
theorem fair_names : ∀ (j : Nat) (l : List Nd), pinL N l → (rdNames j l).fair N
  | j, [], _ => by rw [rdNames]; exact fair_ok _
  | j, n :: r, h => by
    rw [pinL] at h
    rw [rdNames]
    split
    · exact fair_5 (pin_pos h.1)
    · exact (fair_name h.1).bind fun x _ => (fair_names (j + 1) r h.2).bind fun _ _ => fair_ok _
theorem fair_imports {p : Int} {l : List Nd} (hp : 0 ≤ p ∧ p ≤ N) (h : pinL N l) : (rdImports p l).fair N := by
  rw [rdImports]
  exact (fair_by hp h fun _ => fair_skip).bind fun a ha => (fair_by hp (by_pin ha h) fun _ => fair_name).bind fun b hb => (fair_names 1 _ (by_pin hb (by_pin ha h))).bind fun _ _ => fair_ok _
theorem fair_unit {l : List Nd} (hN : 0 ≤ N) (h : pinL N l) : (rdUnit l).fair N := by
  have h00 : (0 : Int) ≤ 0 ∧ (0 : Int) ≤ N := ⟨Int.le_refl _, hN⟩
  rw [rdUnit]
  refine (fair_by h00 h fun _ => fair_enter).bind fun x hx => ?_
  have h1 := by_pin hx h
  obtain ⟨n0, e0, k0⟩ := okBy hx
  have h0 := h
  rw [e0, pinL] at h0
  have hp := (enter_pin k0 h0.1).2
  have hk := (enter_pin k0 h0.1).1
  refine (fair_by hp hk fun _ => fair_skip).bind fun a ha => (fair_by hp (by_pin ha hk) fun _ => fair_name).bind fun b hb => (fair_end (by_pin hb (by_pin ha hk))).bind fun _ _ => ?_
  split
  · refine (fair_by h00 h1 fun _ => fair_enter).bind fun i hi => ?_
    obtain ⟨n3, e3, k3⟩ := okBy hi
    have h3 := h1
    rw [e3, pinL] at h3
    exact (fair_imports (enter_pin k3 h3.1).2 (enter_pin k3 h3.1).1).bind fun im _ => (fair_funcs 0 _ (by_pin hi h1)).bind fun _ _ => fair_ok _
  · exact (fair_funcs 0 _ h1).bind fun _ _ => fair_ok _
end
end Go.Proofs.YtpagbhgnkbbdjaaGreatDoor
