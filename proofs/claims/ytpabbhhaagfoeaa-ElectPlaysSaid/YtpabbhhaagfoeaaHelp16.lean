/- Helps of layer 16's statements. -/
import Derived.Test.YtpabbhhaagfoeaaAwake16
import Derived.Test.YtpabbhhaagfoeaaOpen
import Derived.Test.YtpabbhhaagfoeaaGQ
namespace Go.Proofs.Ytpabbhhaagfoeaa
set_option maxRecDepth 100000
open Go.RowKit
set_option linter.unusedVariables false
set_option linter.unusedSimpArgs false

theorem tmod_nat16 (x y : Nat) : ((x : Int)).tmod (y : Int) = ((x % y : Nat) : Int) := by
  rw [Int.tmod_eq_emod_of_nonneg (by omega)]; rfl
theorem tdiv_nat16 (x y : Nat) : ((x : Int)).tdiv (y : Int) = ((x / y : Nat) : Int) := by
  rw [Int.tdiv_eq_ediv_of_nonneg (by omega)]; rfl
theorem u8_mask16 (k n : Nat) (hk : k ≤ 8) : bits .and .u8 (n : Int) ((2 ^ k - 1 : Nat) : Int) = ((n % 256 % 2 ^ k : Nat) : Int) := by
  have h3 : (BitVec.ofInt 8 ((2 ^ k - 1 : Nat) : Int)).toNat = 2 ^ k - 1 := by
    rw [BitVec.toNat_ofInt]
    have : 2 ^ k ≤ 2 ^ 8 := Nat.pow_le_pow_right (by omega) hk
    omega
  have key : (BitVec.ofInt 8 (n : Int) &&& BitVec.ofInt 8 ((2 ^ k - 1 : Nat) : Int)).toNat = ((n : Int) % ((2 ^ 8 : Nat) : Int)).toNat % 2 ^ k := by
    rw [BitVec.toNat_and, BitVec.toNat_ofInt, h3, Nat.and_two_pow_sub_one_eq_mod]
  show IntKind.u8.wrap ((BitVec.ofInt 8 (n : Int) &&& BitVec.ofInt 8 ((2 ^ k - 1 : Nat) : Int)).toNat : Nat) = ((n % 256 % 2 ^ k : Nat) : Int)
  rw [key, IntKind.wrap_u8]
  have h1 : ((n : Int) % ((2 ^ 8 : Nat) : Int)).toNat = n % 256 := by omega
  rw [h1]
  have h2 : n % 256 % 2 ^ k ≤ n % 256 := Nat.mod_le _ _
  omega
theorem u8_and31n (n : Nat) (h : n < 256) : bits .and .u8 (n : Int) 31 = ((n % 32 : Nat) : Int) := by
  have h1 := u8_mask16 5 n (by omega)
  rw [Nat.mod_eq_of_lt h] at h1
  exact h1
theorem u8_and15n (n : Nat) (h : n < 256) : bits .and .u8 (n : Int) 15 = ((n % 16 : Nat) : Int) := by
  have h1 := u8_mask16 4 n (by omega)
  rw [Nat.mod_eq_of_lt h] at h1
  exact h1

/-- A tick of one that heard nothing: r ticks of its turn are gone. -/
theorem quiet_no {t r : Nat} (h : r + 1 < t) : eLeft t (t - r) = t - (r + 1) ∧ decide (t - r ≤ 1) = false := by
  unfold eLeft
  rw [if_neg (by omega)]
  exact ⟨by omega, by simp; omega⟩
theorem quiet_yes {t r : Nat} (h : r + 1 = t) : eLeft t (t - r) = t - 0 ∧ decide (t - r ≤ 1) = true := by
  unfold eLeft
  rw [if_pos (by omega)]
  exact ⟨by omega, by simp; omega⟩
theorem quo_of {t q r k : Nat} (h : k = t * q + r) (hr : r < t) : k / t = q ∧ k % t = r := by
  subst h
  constructor
  · rw [Nat.mul_add_div (by omega), Nat.div_eq_of_lt hr, Nat.add_zero]
  · rw [Nat.mul_add_mod, Nat.mod_eq_of_lt hr]
theorem wrapN {n : Nat} (h : n < 9223372036854775808) : IntKind.i64.wrap (n : Int) = (n : Int) := by rw [IntKind.wrap_i64]; omega
theorem quoN {j t q : Nat} (hj : j < 9223372036854775808) (ht : 0 < t) (hq : j / t = q) (W : World) : (binOp .quo 3 (.int .i64 (j : Int)) (.int .i64 (t : Int))).run Try.prog W = .ok (.int .i64 (q : Int)) W := by
  have h0 : (t : Int) ≠ 0 := by omega
  have h0n : t ≠ 0 := by omega
  have hd := tdiv_nat16 j t
  rw [hq] at hd
  have hw : IntKind.i64.wrap (q : Int) = (q : Int) := wrapN (by rw [← hq]; exact Nat.lt_of_le_of_lt (Nat.div_le_self _ _) hj)
  simp [go_sem, h0, hd, hw, h0n]
theorem remN {j t q : Nat} (hj : j < 9223372036854775808) (ht : 0 < t) (hq : j % t = q) (W : World) : (binOp .rem 3 (.int .i64 (j : Int)) (.int .i64 (t : Int))).run Try.prog W = .ok (.int .i64 (q : Int)) W := by
  have h0 : (t : Int) ≠ 0 := by omega
  have h0n : t ≠ 0 := by omega
  have hd := tmod_nat16 j t
  rw [hq] at hd
  have hw : IntKind.i64.wrap (q : Int) = (q : Int) := wrapN (by rw [← hq]; exact Nat.lt_of_le_of_lt (Nat.mod_le _ _) hj)
  simp [go_sem, h0, hd, hw, h0n]
end Go.Proofs.Ytpabbhhaagfoeaa
