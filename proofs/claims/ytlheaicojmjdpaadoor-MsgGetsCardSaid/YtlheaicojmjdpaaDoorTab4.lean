/- What the rows' list of package variables gives: the table of a kind's fields; a world for the witness. -/
import Derived.Test.YtlheaicojmjdpaaDoorRows
import Derived.Test.YtlheaicojmjdpaaDoorOpen
import Derived.Test.YtlheaicojmjdpaaDoorOpenMsg
import Derived.Test.YtlheaicojmjdpaaDoorMsgB
import Derived.WalkKit
import Derived.ProofKit
import Derived.OpenShut
import Derived.Deep.DeepHandedRow
import Derived.Lib.LaidTab
namespace Go.Proofs.YtlheaicojmjdpaaDoor
open Go.ChangeShapes Go.WideShapes Go.ChangeAt Go.RowKit
set_option linter.unusedVariables false

theorem gTab4 : Tryd.prog.globalNamed "notcher/msg.ownFields" = some 0 := by kernel_rfl
theorem gTabType4 : (Tryd.prog.globals[0]?).map (·.type) = some 76 := by kernel_rfl
theorem cellsTab4 : Tryd.prog.cellsOf 76 = 19 := by kernel_rfl
theorem cellsElem4 : Tryd.prog.cellsOf 75 = 1 := by kernel_rfl
theorem tab_of_list {W : World} (h : laidMetH Tryd.prog [("notcher/msg.ownFields", Rows.laid_notcher_msg_ownFields)] W) : Tab W := by
  have ht : Lib.TabIs Tryd.prog W "notcher/msg.ownFields" .u16 [0, 572, 252, 636, 76, 76, 268, 3, 515, 515, 3, 1, 514, 2, 112, 764, 252, 240, 3] :=
    Lib.tabIs_of_head (rest := []) gTab4 gTabType4 Tryd.underlying76 Tryd.underlying75 cellsElem4 cellsTab4 h
  intro k hk
  rw [ht.cell gTab4 k hk]
  have h19 : ∀ k, k < 19 → (([0, 572, 252, 636, 76, 76, 268, 3, 515, 515, 3, 1, 514, 2, 112, 764, 252, 240, 3] : List Int).getD k 0) = ((masks.getD k 0 : Nat) : Int) := by decide
  rw [h19 k hk]

/-- A world for the witness: the settled one, the table (block 0) holding what its initialiser lays. -/
noncomputable def laidWorld4 (os : Os) : World :=
  { World.holding Tryd.prog os ⟨#[], #[], []⟩ with heap := (World.holding Tryd.prog os ⟨#[], #[], []⟩).heap.modify 0 fun
      | .cells _ t frozen => .cells #[.int .u16 0, .int .u16 572, .int .u16 252, .int .u16 636, .int .u16 76, .int .u16 76, .int .u16 268, .int .u16 3, .int .u16 515, .int .u16 515, .int .u16 3, .int .u16 1, .int .u16 514, .int .u16 2, .int .u16 112, .int .u16 764, .int .u16 252, .int .u16 240, .int .u16 3] t frozen
      | o => o }
end Go.Proofs.YtlheaicojmjdpaaDoor
