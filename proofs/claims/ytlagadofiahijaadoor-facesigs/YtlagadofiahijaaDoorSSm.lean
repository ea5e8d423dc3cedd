/- WHAT STATEMENTS, PARAMETERS, FUNCTIONS AND UNITS SHOW AS, in plain Lean. -/
import Derived.Test.YtlagadofiahijaaDoorSMath
namespace Go.Proofs.YtlagadofiahijaaDoor.Sh
open Go.ChangeShapes Go.WideShapes Go.ChangeAt Go.RowKit

def Ex.isNil : Ex → Bool
  | .mk kind n op name l => decide (kind = 0) && (decide (n = 0) && (decide (op = 0) && (name.isEmpty && l.isEmpty)))
mutual
def shS : Sm → Option Nd
  | .mk kind name sec len fr to ix e body els =>
    if kind = 1 then (shName name).bind fun a => (shE e).bind fun b => if sec = false ∧ len = 0 ∧ fr = 0 ∧ to = 0 ∧ ix.isNil = true ∧ body = [] ∧ els = [] then some (fm [108, 101, 116] [a, b]) else none
    else if kind = 3 then (shName name).bind fun a => (shE e).bind fun b => if sec = false ∧ len = 0 ∧ fr = 0 ∧ to = 0 ∧ ix.isNil = true ∧ body = [] ∧ els = [] then some (fm [115, 101, 116] [a, b]) else none
    else if kind = 2 then (shName name).bind fun a => (shNum len 1 16).bind fun b => if fr = 0 ∧ to = 0 ∧ ix.isNil = true ∧ e.isNil = true ∧ body = [] ∧ els = [] then some (fm [110, 101, 119] [a, shLab sec, b]) else none
    else if kind = 4 then (shName name).bind fun a => (shE ix).bind fun b => (shE e).bind fun c => if sec = false ∧ len = 0 ∧ fr = 0 ∧ to = 0 ∧ body = [] ∧ els = [] then some (fm [112, 117, 116] [a, b, c]) else none
    else if kind = 5 then (shName name).bind fun a => (shNum fr 0 64).bind fun b => (shNum to 0 64).bind fun c => (shSs body).bind fun d => if sec = false ∧ len = 0 ∧ ix.isNil = true ∧ e.isNil = true ∧ els = [] then some (fm [102, 111, 114] (a :: b :: c :: d)) else none
    else if kind = 6 then (shE e).bind fun a => (shSs body).bind fun b => (shSs els).bind fun c => if name = [] ∧ sec = false ∧ len = 0 ∧ fr = 0 ∧ to = 0 ∧ ix.isNil = true then some (fm [105, 102] [a, ls b, ls c]) else none
    else none
def shSs : List Sm → Option (List Nd)
  | [] => some []
  | x :: l => (shS x).bind fun y => (shSs l).map (y :: ·)
end
theorem shSs_each : ∀ l : List Sm, shSs l = eachO shS l
  | [] => by rw [shSs, eachO]
  | x :: l => by rw [shSs, eachO, shSs_each l]
mutual
def smW : Sm → Nat
  | .mk _ name _ _ _ _ ix e body els => 1 + name.length + exW ix + exW e + smWs body + smWs els
def smWs : List Sm → Nat
  | [] => 0
  | x :: l => smW x + smWs l
end
theorem smW_mem : ∀ (l : List Sm) (x : Sm), x ∈ l → smW x ≤ smWs l
  | [], _, h => by cases h
  | a :: l, x, h => by
    rw [smWs]
    rcases List.mem_cons.1 h with rfl | h
    · omega
    · have := smW_mem l x h; omega
theorem smWs_len : ∀ (l : List Sm), l.length ≤ smWs l
  | [] => by simp
  | .mk _ _ _ _ _ _ _ _ _ _ :: l => by rw [smWs, smW, List.length_cons]; have := smWs_len l; omega
def shP (p : Pa) : Option Nd := (shName p.name).bind fun a => if p.len = 0 then some (ls [a, shLab p.sec]) else (shNum p.len 1 16).map fun b => ls [a, shLab p.sec, b]
def shF (f : Fu) : Option Nd := if f.params.length ≤ 6 then (shName f.name).bind fun a => (eachO shP f.params).bind fun ps => (shSs f.body).bind fun b => (shE f.result).map fun r => fm [102, 110] (a :: ls ps :: shLab f.sec :: b ++ [fm [114, 101, 116] [r]]) else none
def shU (u : Un) : Option (List Nd) := if u.imports.length ≤ 7 ∧ u.funcs.length ≤ 16 then (shName u.name).bind fun a => (eachO shName u.imports).bind fun im => (eachO shF u.funcs).map fun fs => (fm [117, 110, 105, 116] [a] :: (if u.imports = [] then [] else [fm [105, 109, 112, 111, 114, 116] im])) ++ fs else none
def paW (p : Pa) : Nat := 1 + p.name.length
def sumW {α : Type} (f : α → Nat) : List α → Nat
  | [] => 0
  | x :: l => f x + sumW f l
def fuW (f : Fu) : Nat := 1 + f.name.length + sumW paW f.params + smWs f.body + exW f.result
def unW (u : Un) : Nat := u.name.length + sumW (fun s => 1 + s.length) u.imports + sumW fuW u.funcs
end Go.Proofs.YtlagadofiahijaaDoor.Sh
