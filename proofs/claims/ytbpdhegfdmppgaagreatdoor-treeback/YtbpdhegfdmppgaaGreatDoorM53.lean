/- Texts of this proof, put together: LFrame. -/
import Derived.Test.YtbpdhegfdmppgaaGreatDoorM41
import Derived.Handed
import Derived.SizedLaws
import Derived.ChangeSame
import Derived.ChangeVars
import Derived.ChangeMaps5
import Derived.JoinedOf
import Derived.JoinedAt
import Derived.RowKit
import Derived.RowKit3
import Derived.RowKitTokens
import Derived.LaidLaws
import Derived.Deep.DeepLaidRun
import Derived.Stop.LaidErr
import Derived.Shelf.Vars
import Derived.Lib.LaidTab

/- THE FRAME of this stage's proofs: what the listed variables and the world's shape give a walk ('Start', on both sides); one start that fits. -/
namespace Go.Proofs.YtbpdhegfdmppgaaGreatDoor
open Go.ChangeShapes Go.WideShapes Go.ChangeAt Go.RowKit Go.Shelf

theorem own_knob : ownKnob Tryz.prog.godebug = none := by kernel_rfl
/-- What the rows list. -/
abbrev listed : List (String × DataW Unit) := Rows.treeAgainRow.laid
theorem star : "*" ++ "errors.errorString" = "*errors.errorString" := by decide
theorem row_err (u : TypeId) (h : Tryz.prog.typeName? 3 u = some "*errors.errorString") : u = 191 :=
  typeName_ptr_named (nm := "errors.errorString") (by rw [star]; kernel_rfl) (by kernel_rfl) (by decide) u (by rw [star]; exact h)
theorem cells_err : Tryz.prog.cellsOf 193 = 1 := by kernel_rfl
theorem cells_str : Tryz.prog.cellsOf 9 = 1 := by kernel_rfl
theorem cells_u64 : Tryz.prog.cellsOf 134 = 1 := by kernel_rfl
theorem cells_tab : Tryz.prog.cellsOf 168 = 20 := by kernel_rfl
theorem g_range : Tryz.prog.globalNamed "strconv.ErrRange" = some 5 := by kernel_rfl
theorem g_rangeT : (Tryz.prog.globals[5]?).map (·.type) = some 162 := by kernel_rfl
theorem g_syntax : Tryz.prog.globalNamed "strconv.ErrSyntax" = some 4 := by kernel_rfl
theorem g_syntaxT : (Tryz.prog.globals[4]?).map (·.type) = some 162 := by kernel_rfl
theorem g_tab : Tryz.prog.globalNamed "internal/strconv.uint64pow10" = some 0 := by kernel_rfl
theorem g_tabT : (Tryz.prog.globals[0]?).map (·.type) = some 168 := by kernel_rfl
theorem start_of {W : World} (hL : laidMet Tryz.prog listed W) (hsh : W.ShapedOpen Tryz.prog) : Start W ∧ Sh.Start W := by
  obtain ⟨a1, s1, hv1, -, -, -⟩ := laid_sentinel hL.tail.tail.tail g_range g_rangeT Tryz.underlying162 row_err Tryz.underlying191 Tryz.underlying193 rfl rfl Tryz.underlying9 cells_err cells_str
  obtain ⟨a0, s0, hv0, -, -, -⟩ := laid_sentinel hL.tail.tail.tail.tail g_syntax g_syntaxT Tryz.underlying162 row_err Tryz.underlying191 Tryz.underlying193 rfl rfl Tryz.underlying9 cells_err cells_str
  have hmax : ∃ m, W.cell? ⟨Tryz.laysCut_ren.g 1, 0, none⟩ = some (.int .i64 m) := cell_of_shapedOpen_int (g := 1) (t := 3) (zero := #[.int .i64 0]) hsh (of_decide_eq_true (by kernel_rfl)) (by kernel_rfl) rfl (by kernel_rfl) (by kernel_rfl) Tryz.underlying3
  refine ⟨⟨⟨191, .pointer (some a0), ?_⟩, ⟨191, .pointer (some a1), ?_⟩, hmax⟩, ⟨hmax, ?_⟩⟩
  · have h0 := World.var?_cell g_syntax hv0 0
    exact h0
  · have h0 := World.var?_cell g_range hv1 0
    exact h0
  · exact Lib.tabIs_of_head g_tab g_tabT Tryz.underlying168 Tryz.underlying134 cells_u64 cells_tab hL.tail.tail
/-- What holds of the library's variables, on both sides. -/
def Globs (W : World) : Prop := Glob W.heap.size W ∧ Sh.Glob W.heap.size W
theorem glob_of {W : World} (hL : laidMet Tryz.prog listed W) (hsh : W.ShapedOpen Tryz.prog) : Globs W :=
  ⟨⟨W, (start_of hL hsh).1, Nat.le_refl _, Nat.le_refl _, fun _ _ => rfl⟩, ⟨W, (start_of hL hsh).2, Nat.le_refl _, Nat.le_refl _, fun _ _ => rfl⟩⟩

abbrev synS : ByteArray := { data := #[105, 110, 118, 97, 108, 105, 100, 32, 115, 121, 110, 116, 97, 120] }
abbrev rngS : ByteArray := { data := #[118, 97, 108, 117, 101, 32, 111, 117, 116, 32, 111, 102, 32, 114, 97, 110, 103, 101] }
/-- So many blocks has the settled world. -/
noncomputable def low : Nat := (World.holding Tryz.prog default ⟨#[], #[], []⟩).heap.size
/-- The values of a listed table. -/
def tabOf : DataW Unit → Array Value
  | .agg l => (l.map fun | .lit (.int k z) => Value.int k z | _ => undef).toArray
  | _ => #[]
/-- A global's block, laid. -/
def layB (cs : Array Value) : Obj → Obj
  | .cells _ t frozen => .cells cs t frozen
  | o => o
/-- The settled world, the five variables as their initialisers lay them. -/
noncomputable def laidWorld (os : Os) : World :=
  let w0 := World.holding Tryz.prog os ⟨#[.cells #[.string synS] 193, .cells #[.string rngS] 193], #[], []⟩
  { w0 with heap := ((((w0.heap.modify 0 (layB (tabOf Rows.laid_internal_strconv_uint64pow10))).modify 4 (layB #[.iface 191 (.pointer (some ⟨low, 0, none⟩))])).modify 5 (layB #[.iface 191 (.pointer (some ⟨low + 1, 0, none⟩))])).modify 2 (layB (tabOf Rows.laid_math_bits_deBruijn32tab))).modify 3 (layB (tabOf Rows.laid_math_bits_deBruijn64tab)) }
theorem laidWorld_met (os : Os) (args : Array Value) : laidMet Tryz.prog listed ((laidWorld os).forCall (fun _ _ => 0) ⟨#[], args, []⟩).memory :=
  laidMet_of_run3 80 (by kernel_rfl) (by kernel_rfl) (by kernel_rfl)

set_option maxRecDepth 100000 in
/-- A walk under what is listed and the world's shape makes a row's step. -/
theorem lift_of {H : Type} {enc : TypeId × Value → H} {os : Os} {f : FuncId} {fn : Func} {s : ChangeSpec} {conds : List PathCond} {apart fresh handsOn again : Bool} (started : os.Started) (noInit : Tryz.checked.prog.inits.idxOf? f = none) (hfn : Tryz.checked.prog.funcs[f]? = some fn)
    (witness : ∃ (w : World) (tape : Tape) (i : Input), w.os = os ∧ (w.forCall tape i).Shaped Tryz.checked.prog ∧ i.vars = [] ∧ Input.okWide Tryz.checked.prog (w.forCall tape i) .any w.heap.size f i ∧
      ((s.pre enc Tryz.checked.prog fn conds apart (w.forCall tape i).memory i.args ∧ laidMet Tryz.prog listed (w.forCall tape i).memory) ∧ sizedMet enc Tryz.checked.prog fn (OpenSpec.ofChange s) apart (w.forCall tape i).memory i.args) ∧ ({} : Assume).holds Tryz.checked.prog (lone (Frame.enter Tryz.checked.prog f i.args .normal) [] (w.forCall tape i)))
    (go : ∀ (W : World) (base : Nat) (args : Array Value) (ds gs : List (DataW H)) (before : List MemPlace),
      (∀ (j : Nat) t v, fn.params[j]? = some t → args[j]? = some v → Value.okWide Tryz.checked.prog W .any base t v) →
      DataW.Whole enc Tryz.checked.prog fn.params.toList s.vars apart W args.toList ds gs before →
      (DataW.weightsEach Tryz.checked.prog (fn.params.toList ++ s.plain.varTypes Tryz.checked.prog) (ds ++ gs)).all (· ≤ reachBytes) = true → Globs W →
      Calls Tryz.checked.prog f args W fun e W' => ∃ v, e = .returned v ∧ s.post enc Tryz.checked.prog fn apart fresh handsOn again W args v W') :
    ReturnsInHanded {} Tryz.checked os f .any (fun w args => (s.pre enc Tryz.checked.prog fn conds apart w args ∧ laidMet Tryz.prog listed w) ∧ sizedMet enc Tryz.checked.prog fn (OpenSpec.ofChange s) apart w args) (s.post enc Tryz.checked.prog fn apart fresh handsOn again) := by
  refine returnsInHanded_of_calls own_knob started noInit witness ?_
  intro w tape i _ hsh _ hok hpre _
  obtain ⟨_, _, _, fn', hfn', _, _, _, _, hval⟩ := hok
  obtain rfl : fn' = fn := Option.some.inj (hfn'.symm.trans hfn)
  obtain ⟨⟨⟨ds, gs, before, hw, _⟩, hx⟩, hz⟩ := hpre
  have hx' : laidMet Tryz.prog listed (w.forCall tape i) := hx.of_heap (by rfl)
  refine (go (w.forCall tape i) w.heap.size i.args ds gs before hval (DataW.Whole.of_heap (by rfl) hw) (hz.weights hw) (glob_of hx' hsh)).mono ?_
  rintro e W' ⟨v, rfl, hp⟩
  exact ChangeSpec.post_blind hp
end Go.Proofs.YtbpdhegfdmppgaaGreatDoor
