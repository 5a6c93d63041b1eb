/- MsgKinds' walk: what one field alone gives. -/
import Derived.Test.YtlheaicojmjdpaaDoorHelp4
import Derived.Test.YtlheaicojmjdpaaDoorRef04A
namespace Go.Proofs.YtlheaicojmjdpaaDoor
set_option maxRecDepth 100000
open Go.RowKit
set_option linter.unusedVariables false

theorem chk_single {m : PM} {k : Nat} (hk : isK m.kind = true) (hk10 : k < 10) (h : ∀ j, j < 10 → amt m j = if j = k then 1 else 0) : chk m = if own m.kind k then 0 else 1 := by
  have hmost : ∀ j, j < 10 → 1 ≤ most j := ten_cases (by decide) (by decide) (by decide) (by decide) (by decide) (by decide) (by decide) (by decide) (by decide) (by decide)
  by_cases ho : own m.kind k = true
  · rw [if_pos ho]
    refine chk_zero.2 ⟨hk, fun j hj => ?_, fun j hj hn => ?_⟩
    · rw [h j hj]
      have := hmost j hj
      split <;> omega
    · rw [h j hj]
      by_cases e : j = k
      · subst e; rw [ho] at hn; cases hn
      · rw [if_neg e]
  · rw [if_neg ho]
    rcases chk_kinds m with hc | hc
    · have := (chk_zero.1 hc).zero k hk10 (by simpa using ho)
      rw [h k hk10, if_pos rfl] at this
      cases this
    · exact hc
theorem chk_nokind {m : PM} (hk : isK m.kind = false) : chk m = 1 := by unfold chk; rw [if_pos hk]

end Go.Proofs.YtlheaicojmjdpaaDoor
