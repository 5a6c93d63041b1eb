/- Package vec: Le, Sum. -/
import Derived.Test.YtbpflkjodiaokaaVec2
namespace Go.Proofs.Ytbpflkjodiaokaa
set_option maxRecDepth 100000
open Go.RowKit
set_option linter.unusedVariables false
set_option linter.unusedSimpArgs false

theorem leB_of {xs ys : List Nat} (h : ∀ j, j < xs.length → decide (vat xs j ≤ vat ys j) = true) : leB xs ys = true := by
  unfold leB
  rw [decide_eq_true_iff]
  exact fun i hi => by simpa using h i hi
theorem leB_not {xs ys : List Nat} {j : Nat} (hj : j < xs.length) (h : decide (vat xs j ≤ vat ys j) = false) : leB xs ys = false := by
  unfold leB
  rw [decide_eq_false_iff_not]
  intro h2
  have := h2 j hj
  simp at h
  omega
/-! The sum. -/
theorem wsum_take {xs : List Nat} (hb : Bd xs) {j : Nat} (hj : j < xs.length) (ht : total (xs.take j) < 18446744073709551616) :
    (vat xs j ≤ wsum (total (xs.take j)) (vat xs j) ↔ total (xs.take (j + 1)) < 18446744073709551616) ∧ (total (xs.take (j + 1)) < 18446744073709551616 → wsum (total (xs.take j)) (vat xs j) = total (xs.take (j + 1))) := by
  rw [total_take_succ xs j hj]
  have h1 := hb j
  unfold wsum
  constructor
  · constructor <;> intro h <;> omega
  · intro h; omega
end Go.Proofs.Ytbpflkjodiaokaa
