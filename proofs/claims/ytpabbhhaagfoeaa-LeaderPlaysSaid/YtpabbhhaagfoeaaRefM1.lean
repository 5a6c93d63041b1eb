/- Texts laid as one: Ref1, Ref2, Ref3. -/
import Derived.Test.YtpabbhhaagfoeaaPlainM
import Derived.Test.YtpabbhhaagfoeaaBaseM
import Derived.Deep.RegionWith
import Derived.Deep.RegionLaw

section
/- The reference of layer 1: numbers as texts. -/
namespace Go.Proofs.Ytpabbhhaagfoeaa
set_option maxRecDepth 100000
open Go.RowKit

end Go.Proofs.Ytpabbhhaagfoeaa
end

section
/- The reference of layer 1: reading. -/
namespace Go.Proofs.Ytpabbhhaagfoeaa
set_option maxRecDepth 100000
open Go.RowKit
set_option linter.unusedVariables false

def refOf (B : List UInt8) (E : Int) : Value := .agg #[.string (strOf B), .int .i64 E]

def RTold (w : World) (B : List UInt8) (r : Int × List UInt8 × List UInt8) (e : Ending) (w' : World) : Prop :=
  ∃ B', e = .returned (.tuple #[refOf B' r.1, .string (strOf r.2.2)]) ∧ (r.1 = 0 → B' = r.2.1) ∧ B'.length ≤ B.length ∧ Mods Nil w w'

def NTold (w : World) (B : List UInt8) (r : Int × List UInt8 × Nat) (e : Ending) (w' : World) : Prop :=
  ∃ B', e = .returned (.tuple #[refOf B' r.1, .int .u64 (r.2.2 : Nat)]) ∧ (r.1 = 0 → B' = r.2.1) ∧ B'.length ≤ B.length ∧ Mods Nil w w'

theorem readRaw_ok {B : List UInt8} {n : Nat} (h : n ≤ B.length) : readRaw 0 B n = (0, B.drop n, B.take n) := by
  unfold readRaw; rw [if_neg (by simp), if_neg (by omega), if_neg (by omega)]; rfl
theorem readRaw_short {B : List UInt8} {n : Nat} (h : B.length < n) : readRaw 0 B n = (10, [], []) := by
  unfold readRaw; rw [if_neg (by simp), if_neg (by omega), if_pos (by omega)]

theorem readUint_err' {err : Int} (h : err ≠ 0) {xs : List UInt8} : readUint err xs = (err, xs, 0) := by unfold readUint; rw [if_pos h]
theorem readRaw_err' {err : Int} (h : err ≠ 0) (xs : List UInt8) (n : Int) : readRaw err xs n = (err, xs, []) := by unfold readRaw; rw [if_pos h]
theorem mul_step (v b : Nat) (hv : v < 72057594037927936) (hb : b < 256) : IntKind.u64.wrap (IntKind.u64.wrap ((v : Int) * 256) + IntKind.u64.wrap (b : Int)) = ((v * 256 + b : Nat) : Int) := by
  rw [IntKind.wrap_u64, IntKind.wrap_u64, IntKind.wrap_u64]; omega

end Go.Proofs.Ytpabbhhaagfoeaa
end

section
/- The reference of layer 1: rows of bytes, and the end. -/
namespace Go.Proofs.Ytpabbhhaagfoeaa
set_option maxRecDepth 100000
open Go.RowKit
theorem valOf_lt64' (xs : List UInt8) (err : Int) : (readUint err xs).2.2 < 18446744073709551616 := valOf_lt64 xs err

end Go.Proofs.Ytpabbhhaagfoeaa
end
