/- The reference of layer 10: a number from one on, below another one (small). -/
import Derived.Test.YtkodmgnagfolpaaRef10a
import Derived.Test.YtkodmgnagfolpaaRefM1
namespace Go.Proofs.Ytkodmgnagfolpaa
set_option maxRecDepth 100000
open Go.RowKit
set_option linter.unusedVariables false
set_option linter.unusedSimpArgs false

def smallS (E : Int) (B : List UInt8) (lo hi : Nat) : Int × List UInt8 × Nat :=
  if (readUint E B).1 = 0 ∧ ((readUint E B).2.2 < lo ∨ hi ≤ (readUint E B).2.2) then (11, (readUint E B).2.1, 0) else readUint E B
def STold (w : World) (B : List UInt8) (r : Int × List UInt8 × Nat) (e : Ending) (w' : World) : Prop :=
  ∃ B', e = .returned (.tuple #[refOf B' r.1, .int .i64 (r.2.2 : Nat)]) ∧ (r.1 = 0 → B' = r.2.1) ∧ B'.length ≤ B.length ∧ Mods Nil w w'
theorem readUint_zero (E : Int) (B : List UInt8) (h : (readUint E B).1 ≠ 0) : (readUint E B).2.2 = 0 := by
  unfold readUint at h ⊢
  split
  · rfl
  · rename_i h1
    rw [if_neg h1] at h
    split
    · rfl
    · rename_i h2; rw [if_neg h2] at h; simp at h
end Go.Proofs.Ytkodmgnagfolpaa
