/- Small helps of the walks of layer 4. -/
import Derived.Test.YtlheaicojmjdpaaDoorAwake04
import Derived.Test.YtlheaicojmjdpaaDoorOpen
namespace Go.Proofs.YtlheaicojmjdpaaDoor
set_option maxRecDepth 100000
open Go.RowKit
set_option linter.unusedVariables false

theorem conv_sl4 {w : World} {A : Option Addr} {n c : Nat} {xs : List UInt8} (hn : xs.length = n) (hs : Sl w A c (bts xs)) : (convert 22 9 (.slice A n c)).run Tryd.prog w = .ok (.string (strOf xs)) w :=
  run_string_sl _ 22 5 Tryd.underlying22 Tryd.underlying5 A n c _ hn hs 9 Tryd.underlying9
theorem u8_nat4 {a : Int} (w : (Lit.int .u8 a).wf = true) : ∃ k : UInt8, a = (k.toNat : Int) := by
  have h := u8_of_wf w
  exact ⟨UInt8.ofNat a.toNat, by simp; omega⟩
theorem frameOf_le (k : UInt8) {xs : List UInt8} {n : Nat} (h : xs.length ≤ n) (h6 : n ≤ 65535) : (frameOf k xs).length ≤ n + 14 := by
  have h1 := frameOf_length k xs
  have h2 := putU_length xs.length (by omega)
  omega
end Go.Proofs.YtlheaicojmjdpaaDoor
