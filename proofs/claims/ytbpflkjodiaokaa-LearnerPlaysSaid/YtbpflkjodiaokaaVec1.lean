/- Package vec: a number at a place; what is done at each place, whatever is done. -/
import Derived.Test.YtbpflkjodiaokaaVec0
import Derived.Lib.Hide
import Derived.Deep.QuietTactic
import Derived.BigQuiet
namespace Go.Proofs.Ytbpflkjodiaokaa
set_option maxRecDepth 100000
open Go.RowKit
set_option linter.unusedVariables false
set_option linter.unusedSimpArgs false

/-- A row's number at any place. -/
def atI (xs : List Nat) (i : Int) : Nat := if i < 0 then 0 else vat xs i.toNat
theorem atI_nat (xs : List Nat) (i : Nat) : atI xs (i : Int) = vat xs i := by
  unfold atI
  rw [if_neg (by omega)]
  simp
theorem snoc_yes {yes : Nat → Bool} {j : Nat} (h : ∀ i, i < j → yes i = true) (hj : yes j = true) : ∀ i, i < j + 1 → yes i = true := fun i hi => by
  by_cases e : i = j
  · rw [e]; exact hj
  · exact h i (by omega)
/-- A function with a body is entered. -/
theorem enters {f : FuncId} {fn : Func} {c : Code} (hf : Try.prog.funcs[f]? = some fn) (hname : (fn.name == "runtime.NumGoroutine") = false) (hb : fn.body = some c) (args : Array Value) (W : World) :
    (callFunc f args).run Try.prog W = .ok (.enter f args) W := by
  have h1 : fn.name ≠ "runtime.NumGoroutine" := by simpa using hname
  simp [callFunc, hf, h1, hb]
end Go.Proofs.Ytbpflkjodiaokaa
