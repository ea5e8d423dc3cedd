/- Texts of this proof, put together: TMath. -/
import Derived.Test.YtbpdhegfdmppgaaGreatDoorM1
import Derived.Lib.ParseIntB
import Derived.Lib.IndexMore

/- PLAIN MATHEMATICS of units, no Go in sight: what is read out of nodes, from the front on, or what is wrong first. -/
namespace Go.Proofs.YtbpdhegfdmppgaaGreatDoor

inductive Ex where
  | mk (kind : Int) (n : Nat) (op : Int) (name : List UInt8) (l : List Ex)
inductive Sm where
  | mk (kind : Int) (name : List UInt8) (sec : Bool) (len fr to : Int) (ix e : Ex) (body els : List Sm)
structure Pa where
  name : List UInt8
  sec : Bool
  len : Int
structure Fu where
  name : List UInt8
  params : List Pa
  sec : Bool
  body : List Sm
  result : Ex
structure Un where
  name : List UInt8
  imports : List (List UInt8)
  funcs : List Fu

def Ex.none : Ex := .mk 0 0 0 [] []

inductive Res (α : Type) where
  | ok (x : α)
  | bad (c p : Int)
def Res.bind {α β : Type} : Res α → (α → Res β) → Res β
  | .ok x, f => f x
  | .bad c p, _ => .bad c p
@[simp] theorem Res.bind_ok {α β : Type} (x : α) (f : α → Res β) : (Res.ok x).bind f = f x := rfl
@[simp] theorem Res.bind_bad {α β : Type} (c p : Int) (f : α → Res β) : (Res.bad c p : Res α).bind f = .bad c p := rfl
theorem Res.bind_assoc {α β γ : Type} (r : Res α) (f : α → Res β) (g : β → Res γ) : (r.bind f).bind g = r.bind fun x => (f x).bind g := by cases r <;> rfl

def Nd.pos : Nd → Int
  | .mk _ _ _ p => p

mutual
/-- No word is too long for any machine. -/
def Nd.wok : Nd → Prop
  | .mk _ wd ks _ => wd.length ≤ 1000000000 ∧ wokL ks
def wokL : List Nd → Prop
  | [] => True
  | x :: l => Nd.wok x ∧ wokL l
end

def isLow (b : UInt8) : Bool := 97 ≤ b && b ≤ 122
def isBeh (b : UInt8) : Bool := (48 ≤ b && b ≤ 57) || b == 95
def isName : List UInt8 → Bool
  | [] => false
  | b :: r => decide (r.length ≤ 11) && isLow b && r.all fun c => isLow c || isBeh c
/-- Is it a name, or two with a point between? -/
def isFull (l : List UInt8) : Bool := isName (Lib.cut l [46]).1 && (!(Lib.cut l [46]).2.2 || isName (Lib.cut l [46]).2.1)
def num (l : List UInt8) : Option Nat :=
  if 1 < l.length ∧ l.head? = some 48 then none
  else match Lib.parseUintB 32 l with
    | .ok u => some u
    | _ => none

/-- An op's number, by its sign. -/
def opOf (l : List UInt8) : Int :=
  if l = [43] then 1 else if l = [45] then 2 else if l = [42] then 3 else if l = [38] then 4 else if l = [124] then 5 else
  if l = [94] then 6 else if l = [60, 60] then 7 else if l = [62, 62] then 8 else if l = [60] then 9 else if l = [61, 61] then 10 else 0

def rdText : Nd → Res (List UInt8)
  | .mk il wd ks p => if il || !ks.isEmpty then .bad 6 p else .ok wd
def rdEnter : Nd → Res (List Nd × Int)
  | .mk il wd ks p => if !il || !wd.isEmpty then .bad 6 p else .ok (ks, p)
def rdNameOf (n : Nd) : Res (List UInt8) := (rdText n).bind fun s => if isName s then .ok s else .bad 6 n.pos
def rdFullOf (n : Nd) : Res (List UInt8) := (rdText n).bind fun s => if isFull s then .ok s else .bad 6 n.pos
def rdLabelOf (n : Nd) : Res Bool := (rdText n).bind fun s => if s = [112, 117, 98] then .ok false else if s = [115, 101, 99] then .ok true else .bad 6 n.pos
def rdWithinOf (lo hi : Nat) (n : Nd) : Res Nat := (rdText n).bind fun s =>
  match num s with
  | some v => if lo ≤ v ∧ v ≤ hi then .ok v else .bad 6 n.pos
  | none => .bad 6 n.pos
def rdSkipOf (w : List UInt8) (n : Nd) : Res Unit := (rdText n).bind fun s => if s = w then .ok () else .bad 6 n.pos

def rdNext (p : Int) : List Nd → Res (Nd × List Nd)
  | [] => .bad 6 p
  | n :: r => .ok (n, r)
/-- The next node, read by f. -/
def rdBy {α : Type} (f : Nd → Res α) (p : Int) (l : List Nd) : Res (α × List Nd) := (rdNext p l).bind fun x => (f x.1).bind fun y => .ok (y, x.2)
def rdEnd : List Nd → Res Unit
  | [] => .ok ()
  | n :: _ => .bad 6 n.pos

mutual
def rdE : Nd → Res Ex
  | .mk true wd ks p => if !wd.isEmpty then .bad 6 p else rdParts p ks
  | .mk false wd ks p =>
    if !ks.isEmpty then .bad 6 p else
    match num wd with
    | some v => .ok (.mk 1 v 0 [] [])
    | none => if isName wd then .ok (.mk 2 0 0 wd []) else .bad 6 p
def rdParts (p : Int) : List Nd → Res Ex
  | [] => .bad 6 p
  | first :: r => (rdText first).bind fun s =>
    if s = [97, 116] then
      match r with
      | [] => .bad 6 p
      | nm :: r' => (rdNameOf nm).bind fun n => (rdN p 1 r').bind fun x => (rdEnd x.2).bind fun _ => .ok (.mk 3 0 0 n x.1)
    else if s = [115, 101, 108] then (rdN p 3 r).bind fun x => (rdEnd x.2).bind fun _ => .ok (.mk 5 0 0 [] x.1)
    else if s = [99, 97, 108, 108] then
      match r with
      | [] => .bad 6 p
      | nm :: r' => (rdFullOf nm).bind fun n => (rdArgs 0 r').bind fun x => .ok (.mk 6 0 0 n x)
    else if opOf s = 0 then .bad 6 first.pos
    else (rdN p 2 r).bind fun x => (rdEnd x.2).bind fun _ => .ok (.mk 4 0 (opOf s) [] x.1)
def rdN (p : Int) : Nat → List Nd → Res (List Ex × List Nd)
  | 0, l => .ok ([], l)
  | _ + 1, [] => .bad 6 p
  | k + 1, n :: r => (rdE n).bind fun e => (rdN p k r).bind fun x => .ok (e :: x.1, x.2)
def rdArgs : Nat → List Nd → Res (List Ex)
  | _, [] => .ok []
  | k, n :: r => if 6 ≤ k then .bad 5 n.pos else (rdE n).bind fun e => (rdArgs (k + 1) r).bind fun x => .ok (e :: x)
end

mutual
/-- A statement's nodes; p: where the list stands. -/
def rdSt (p : Int) : List Nd → Res Sm
  | [] => .bad 6 p
  | first :: r => (rdText first).bind fun s =>
    if s = [108, 101, 116] then (rdBy rdNameOf p r).bind fun a => (rdBy rdE p a.2).bind fun b => (rdEnd b.2).bind fun _ => .ok (.mk 1 a.1 false 0 0 0 .none b.1 [] [])
    else if s = [115, 101, 116] then (rdBy rdNameOf p r).bind fun a => (rdBy rdE p a.2).bind fun b => (rdEnd b.2).bind fun _ => .ok (.mk 3 a.1 false 0 0 0 .none b.1 [] [])
    else if s = [110, 101, 119] then (rdBy rdNameOf p r).bind fun a => (rdBy rdLabelOf p a.2).bind fun b => (rdBy (rdWithinOf 1 16) p b.2).bind fun c => (rdEnd c.2).bind fun _ => .ok (.mk 2 a.1 b.1 c.1 0 0 .none .none [] [])
    else if s = [112, 117, 116] then (rdBy rdNameOf p r).bind fun a => (rdBy rdE p a.2).bind fun b => (rdBy rdE p b.2).bind fun c => (rdEnd c.2).bind fun _ => .ok (.mk 4 a.1 false 0 0 0 b.1 c.1 [] [])
    else if s = [102, 111, 114] then
      match r with
      | [] => .bad 6 p
      | nm :: r1 => (rdNameOf nm).bind fun a =>
        match r1 with
        | [] => .bad 6 p
        | f :: r2 => (rdWithinOf 0 64 f).bind fun b =>
          match r2 with
          | [] => .bad 6 p
          | t :: r3 => (rdWithinOf 0 64 t).bind fun c => (rdSs r3).bind fun l => .ok (.mk 5 a false 0 b c .none .none l [])
    else if s = [105, 102] then
      match r with
      | [] => .bad 6 p
      | c :: r1 => (rdE c).bind fun e =>
        match r1 with
        | [] => .bad 6 p
        | x :: r2 => (rdBlock x).bind fun a =>
          match r2 with
          | [] => .bad 6 p
          | y :: r3 => (rdBlock y).bind fun b => (rdEnd r3).bind fun _ => .ok (.mk 6 [] false 0 0 0 .none e a b)
    else .bad 6 first.pos
def rdS : Nd → Res Sm
  | .mk il wd ks p => if !il || !wd.isEmpty then .bad 6 p else rdSt p ks
def rdBlock : Nd → Res (List Sm)
  | .mk il wd ks p => if !il || !wd.isEmpty then .bad 6 p else rdSs ks
def rdSs : List Nd → Res (List Sm)
  | [] => .ok []
  | n :: r => (rdS n).bind fun s => (rdSs r).bind fun x => .ok (s :: x)
end

def rdParam (p : Int) (l : List Nd) : Res Pa :=
  (rdBy rdNameOf p l).bind fun a => (rdBy rdLabelOf p a.2).bind fun b =>
    match b.2 with
    | [] => .ok ⟨a.1, b.1, 0⟩
    | n :: r => (rdWithinOf 1 16 n).bind fun c => (rdEnd r).bind fun _ => .ok ⟨a.1, b.1, c⟩
def rdParams : Nat → List Nd → Res (List Pa)
  | _, [] => .ok []
  | k, n :: r => if 6 ≤ k then .bad 5 n.pos else (rdEnter n).bind fun x => (rdParam x.2 x.1).bind fun a => (rdParams (k + 1) r).bind fun y => .ok (a :: y)
/-- A function's statements, its result, and what is left. -/
def rdBody (p : Int) : List Nd → Res (List Sm × Ex × List Nd)
  | [] => .bad 6 p
  | n :: r => (rdEnter n).bind fun x => (rdNext x.2 x.1).bind fun y => (rdText y.1).bind fun s =>
    if s = [114, 101, 116] then (rdBy rdE x.2 y.2).bind fun e => (rdEnd e.2).bind fun _ => .ok ([], e.1, r)
    else (rdSt x.2 x.1).bind fun a => (rdBody p r).bind fun z => .ok (a :: z.1, z.2.1, z.2.2)
def rdFunc (n : Nd) : Res Fu :=
  (rdEnter n).bind fun x => (rdBy (rdSkipOf [102, 110]) x.2 x.1).bind fun a => (rdBy rdNameOf x.2 a.2).bind fun b => (rdBy rdEnter x.2 b.2).bind fun c =>
    (rdParams 0 c.1.1).bind fun ps => (rdBy rdLabelOf x.2 c.2).bind fun d => (rdBody x.2 d.2).bind fun z => (rdEnd z.2.2).bind fun _ => .ok ⟨b.1, ps, d.1, z.1, z.2.1⟩
def rdFuncs : Nat → List Nd → Res (List Fu)
  | _, [] => .ok []
  | k, n :: r => if 16 ≤ k then .bad 5 n.pos else (rdFunc n).bind fun f => (rdFuncs (k + 1) r).bind fun x => .ok (f :: x)
def rdNames : Nat → List Nd → Res (List (List UInt8))
  | _, [] => .ok []
  | k, n :: r => if 7 ≤ k then .bad 5 n.pos else (rdNameOf n).bind fun f => (rdNames (k + 1) r).bind fun x => .ok (f :: x)
def rdImports (p : Int) (l : List Nd) : Res (List (List UInt8)) :=
  (rdBy (rdSkipOf [105, 109, 112, 111, 114, 116]) p l).bind fun a => (rdBy rdNameOf p a.2).bind fun b => (rdNames 1 b.2).bind fun x => .ok (b.1 :: x)
/-- Is the next node a list of that first word? -/
def begins (s : List UInt8) : List Nd → Bool
  | .mk true _ (.mk false wd _ _ :: _) _ :: _ => wd == s
  | _ => false
def rdUnit (l : List Nd) : Res Un :=
  (rdBy rdEnter 0 l).bind fun h => (rdBy (rdSkipOf [117, 110, 105, 116]) h.1.2 h.1.1).bind fun a => (rdBy rdNameOf h.1.2 a.2).bind fun b => (rdEnd b.2).bind fun _ =>
    if begins [105, 109, 112, 111, 114, 116] h.2 then
      (rdBy rdEnter 0 h.2).bind fun i => (rdImports i.1.2 i.1.1).bind fun im => (rdFuncs 0 i.2).bind fun fs => .ok ⟨b.1, im, fs⟩
    else (rdFuncs 0 h.2).bind fun fs => .ok ⟨b.1, [], fs⟩
end Go.Proofs.YtbpdhegfdmppgaaGreatDoor
