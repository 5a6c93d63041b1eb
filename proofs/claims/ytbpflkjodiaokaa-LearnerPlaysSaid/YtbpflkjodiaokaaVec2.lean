/- Package vec: how two rows stand, their sum. -/
import Derived.Test.YtbpflkjodiaokaaVec1
import Derived.Test.YtbpflkjodiaokaaQT
import Derived.Test.YtbpflkjodiaokaaInRows
namespace Go.Proofs.Ytbpflkjodiaokaa
set_option maxRecDepth 100000
open Go.RowKit
set_option linter.unusedVariables false
set_option linter.unusedSimpArgs false

/-- A box of a row. -/
theorem Blk.oneV {W : World} {g : Nat} {t : TypeId} {v : Value} (h : Blk W g t #[v]) : W.cell? ⟨g, 0, none⟩ = some v ∧ W.frozen? ⟨g, 0, none⟩ = false := ⟨by rw [h.cell]; rfl, h.frozen 0⟩
theorem dec_le (x y : Nat) : decide ((x : Int) ≤ (y : Int)) = decide (x ≤ y) := by
  by_cases h : x ≤ y <;> simp [h]
theorem beq_u64 (x y : Nat) : ((x : Int) == (y : Int)) = decide (x = y) := by
  rw [Bool.eq_iff_iff]; simp; omega
/-- What comes of a sum that has a number more. -/
def wsum (s x : Nat) : Nat := (s + x) % 18446744073709551616
theorem wsum_wrap (s x : Nat) : IntKind.u64.wrap ((s : Int) + (x : Int)) = (wsum s x : Int) := by
  rw [IntKind.wrap_u64]; unfold wsum; omega
end Go.Proofs.Ytbpflkjodiaokaa
