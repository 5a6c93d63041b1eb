/- Rows told by a function; bits of small masks. No program. (Stages 13 and 14 have copies of their own.) -/
import Derived.Test.YtfnecjogiafekaaBaseM
import Derived.Laws.BitsAllLaws
import Derived.Deep.OwnRows
namespace Go.Proofs.Ytfnecjogiafekaa
set_option maxRecDepth 100000
open Go.RowKit
set_option linter.unusedVariables false
set_option linter.unusedSimpArgs false

/-! A row told by a function. -/
def rowF (f : Nat → Value) (n : Nat) : Array Value := ((List.range n).map f).toArray
theorem rowF_size (f : Nat → Value) (n : Nat) : (rowF f n).size = n := by simp [rowF]
theorem rowF_get (f : Nat → Value) {n k : Nat} (h : k < n) : (rowF f n)[k]? = some (f k) := by simp [rowF, h]
theorem rowF_congr {f g : Nat → Value} {n : Nat} (h : ∀ k, k < n → f k = g k) : rowF f n = rowF g n := by
  unfold rowF
  congr 1
  exact List.map_congr_left (fun k hk => h k (List.mem_range.1 hk))
theorem rowF_set (f : Nat → Value) (n k : Nat) (v : Value) : (rowF f n).setIfInBounds k v = rowF (fun j => if j = k then v else f j) n := by
  apply Array.ext_getElem?
  intro i
  by_cases hi : i < n
  · rw [rowF_get _ hi, Array.getElem?_setIfInBounds]
    by_cases hk : k = i
    · subst hk
      rw [if_pos rfl, if_pos (by rw [rowF_size]; exact hi), if_pos rfl]
    · rw [if_neg hk, rowF_get _ hi, if_neg (fun h => hk h.symm)]
  · rw [Array.getElem?_eq_none (by rw [Array.size_setIfInBounds, rowF_size]; omega), Array.getElem?_eq_none (by rw [rowF_size]; omega)]
theorem made_rowF (z : Value) (hz : z.oneCell' = true) (n : Nat) : madeCells #[z] n = rowF (fun _ => z) n := by
  apply Array.ext'
  rw [toList_madeCells_one]
  simp [rowF, List.map_const']
theorem Blk.rowset {w : World} {g n : Nat} {t : TypeId} {f : Nat → Value} (h : Blk w g t (rowF f n)) (k : Nat) (v : Value) : Blk (w.setCell ⟨g, k, none⟩ v) g t (rowF (fun j => if j = k then v else f j) n) := by
  have := h.set_ k v
  rwa [rowF_set] at this
theorem Blk.rowcell {w : World} {g n : Nat} {t : TypeId} {f : Nat → Value} (h : Blk w g t (rowF f n)) {k : Nat} (hk : k < n) : w.cell? ⟨g, k, none⟩ = some (f k) := (h.cell k).trans (rowF_get f hk)

/-! Bits. -/
theorem u8_mask (k n : Nat) (hk : k ≤ 8) : bits .and .u8 (n : Int) ((2 ^ k - 1 : Nat) : Int) = ((n % 256 % 2 ^ k : Nat) : Int) := by
  have hpow : 2 ^ k - 1 < 256 := by
    have : 2 ^ k ≤ 2 ^ 8 := Nat.pow_le_pow_right (by omega) hk
    omega
  have h3 : (BitVec.ofInt 8 ((2 ^ k - 1 : Nat) : Int)).toNat = 2 ^ k - 1 := by
    rw [BitVec.toNat_ofInt]
    omega
  have key : (BitVec.ofInt 8 (n : Int) &&& BitVec.ofInt 8 ((2 ^ k - 1 : Nat) : Int)).toNat = ((n : Int) % ((2 ^ 8 : Nat) : Int)).toNat % 2 ^ k := by
    rw [BitVec.toNat_and, BitVec.toNat_ofInt, h3, Nat.and_two_pow_sub_one_eq_mod]
  show IntKind.u8.wrap ((BitVec.ofInt 8 (n : Int) &&& BitVec.ofInt 8 ((2 ^ k - 1 : Nat) : Int)).toNat : Nat) = ((n % 256 % 2 ^ k : Nat) : Int)
  rw [key, IntKind.wrap_u8']
  have h1 : ((n : Int) % ((2 ^ 8 : Nat) : Int)).toNat = n % 256 := by omega
  rw [h1]
  have h2 : n % 256 % 2 ^ k < 256 := Nat.lt_of_le_of_lt (Nat.mod_le _ _) (by omega)
  omega
theorem u64_mask (k n : Nat) (hk : k < 64) : bits .and .u64 (n : Int) ((2 ^ k - 1 : Nat) : Int) = ((n % 18446744073709551616 % 2 ^ k : Nat) : Int) := by
  have hpow : 2 ^ k ≤ 9223372036854775808 := by
    have : 2 ^ k ≤ 2 ^ 63 := Nat.pow_le_pow_right (by omega) (by omega)
    omega
  have h3 : (BitVec.ofInt 64 ((2 ^ k - 1 : Nat) : Int)).toNat = 2 ^ k - 1 := by
    rw [BitVec.toNat_ofInt]
    omega
  have key : (BitVec.ofInt 64 (n : Int) &&& BitVec.ofInt 64 ((2 ^ k - 1 : Nat) : Int)).toNat = ((n : Int) % ((2 ^ 64 : Nat) : Int)).toNat % 2 ^ k := by
    rw [BitVec.toNat_and, BitVec.toNat_ofInt, h3, Nat.and_two_pow_sub_one_eq_mod]
  show IntKind.u64.wrap ((BitVec.ofInt 64 (n : Int) &&& BitVec.ofInt 64 ((2 ^ k - 1 : Nat) : Int)).toNat : Nat) = ((n % 18446744073709551616 % 2 ^ k : Nat) : Int)
  rw [key, IntKind.wrap_u64]
  have h1 : ((n : Int) % ((2 ^ 64 : Nat) : Int)).toNat = n % 18446744073709551616 := by omega
  rw [h1]
  have h0 : 0 < 2 ^ k := Nat.pos_of_ne_zero (by simp)
  have h2 : n % 18446744073709551616 % 2 ^ k < 2 ^ k := Nat.mod_lt _ h0
  omega
theorem u64_and7 {n : Nat} (h : n < 18446744073709551616) : bits .and .u64 (n : Int) 7 = ((n % 8 : Nat) : Int) := by
  have h1 := u64_mask 3 n (by omega)
  rw [Nat.mod_eq_of_lt h] at h1
  exact h1
theorem u8_and15v (b : UInt8) : bits .and .u8 (b.toNat : Int) 15 = ((b.toNat % 16 : Nat) : Int) := by
  have h := u8_mask 4 b.toNat (by omega)
  have hb := b.toNat_lt
  rw [Nat.mod_eq_of_lt (by omega : b.toNat < 256)] at h
  exact h
theorem u8_and31v (b : UInt8) : bits .and .u8 (b.toNat : Int) 31 = ((b.toNat % 32 : Nat) : Int) := by
  have h := u8_mask 5 b.toNat (by omega)
  have hb := b.toNat_lt
  rw [Nat.mod_eq_of_lt (by omega : b.toNat < 256)] at h
  exact h

end Go.Proofs.Ytfnecjogiafekaa
