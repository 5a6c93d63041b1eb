/- CRC-32C in plain numbers: a bit more, a byte more, sums; bytes that differ in up to 32 bits on end have sums that differ. No program. -/
namespace Go.Proofs.Ytncmmiecfkfcgaa

/-! A bit more, a byte more, sums. -/
def bit1 (x : Nat) : Nat := if x % 2 = 0 then x / 2 else (x / 2) ^^^ 2197175160
def bitN : Nat → Nat → Nat
  | 0, x => x
  | n + 1, x => bitN n (bit1 x)
def byte1 (x c : Nat) : Nat := bitN 8 (x ^^^ c)
def crc (x : Nat) (l : List UInt8) : Nat := l.foldl (fun x c => byte1 x c.toNat) x
def sumOf (l : List UInt8) : Nat := 4294967295 - crc 4294967295 l
def fourOf (x : Nat) : List UInt8 := [UInt8.ofNat (x / 16777216), UInt8.ofNat (x / 65536), UInt8.ofNat (x / 256), UInt8.ofNat x]
def sealedOf (l : List UInt8) : List UInt8 := l ++ fourOf (sumOf l)

theorem xor_mod2 (x y : Nat) : (x ^^^ y) % 2 = (x % 2 + y % 2) % 2 := by
  have h := Nat.xor_mod_two_pow (a := x) (b := y) (n := 1)
  simp only [Nat.pow_one] at h
  rw [h]
  rcases Nat.mod_two_eq_zero_or_one x with h1 | h1 <;> rcases Nat.mod_two_eq_zero_or_one y with h2 | h2 <;> rw [h1, h2] <;> rfl
theorem xor_div2 (x y : Nat) : (x ^^^ y) / 2 = (x / 2) ^^^ (y / 2) := by
  have h := Nat.xor_div_two_pow (a := x) (b := y) (n := 1)
  simpa using h

theorem eq_of_xor_zero {x y : Nat} (h : x ^^^ y = 0) : x = y := by
  have := congrArg (· ^^^ y) h
  simpa [Nat.xor_assoc] using this
theorem bit1_even {x : Nat} (h : x % 2 = 0) : bit1 x = x / 2 := if_pos h
theorem bit1_odd {x : Nat} (h : x % 2 = 1) : bit1 x = (x / 2) ^^^ 2197175160 := if_neg (by omega)
theorem bit1_xor (x y : Nat) : bit1 (x ^^^ y) = bit1 x ^^^ bit1 y := by
  have hm := xor_mod2 x y
  have hd := xor_div2 x y
  rcases Nat.mod_two_eq_zero_or_one x with h1 | h1 <;> rcases Nat.mod_two_eq_zero_or_one y with h2 | h2 <;> rw [h1, h2] at hm
  · rw [bit1_even hm, bit1_even h1, bit1_even h2, hd]
  · rw [bit1_odd hm, bit1_even h1, bit1_odd h2, hd, Nat.xor_assoc]
  · rw [bit1_odd hm, bit1_odd h1, bit1_even h2, hd, Nat.xor_assoc, Nat.xor_assoc, Nat.xor_comm (y / 2)]
  · rw [bit1_even hm, bit1_odd h1, bit1_odd h2, hd, Nat.xor_assoc, Nat.xor_comm (y / 2), ← Nat.xor_assoc 2197175160, Nat.xor_self, Nat.zero_xor]
theorem bitN_xor (n x y : Nat) : bitN n (x ^^^ y) = bitN n x ^^^ bitN n y := by
  induction n generalizing x y with
  | zero => rfl
  | succ n ih => unfold bitN; rw [bit1_xor, ih]
theorem bitN_add (m n x : Nat) : bitN (m + n) x = bitN n (bitN m x) := by
  induction m generalizing x with
  | zero => simp [bitN]
  | succ m ih => rw [show m + 1 + n = (m + n) + 1 by omega]; simp only [bitN]; exact ih _
/-- Zeroes fall out. -/
theorem bitN_shift (n x : Nat) : bitN n (2 ^ n * x) = x := by
  induction n generalizing x with
  | zero => simp [bitN]
  | succ n ih =>
    unfold bitN
    have : 2 ^ (n + 1) * x = 2 * (2 ^ n * x) := by rw [Nat.pow_succ, Nat.mul_comm (2 ^ n) 2, Nat.mul_assoc]
    rw [this, bit1_even (by omega), Nat.mul_div_cancel_left _ (by omega)]
    exact ih x
theorem bit1_lt {x : Nat} (h : x < 4294967296) : bit1 x < 4294967296 := by
  unfold bit1
  split
  · omega
  · exact Nat.xor_lt_two_pow (n := 32) (by omega) (by omega)
theorem bitN_lt (n : Nat) {x : Nat} (h : x < 4294967296) : bitN n x < 4294967296 := by
  induction n generalizing x with
  | zero => exact h
  | succ n ih => exact ih (bit1_lt h)
theorem bit1_zero {x : Nat} (h : x < 4294967296) (hz : bit1 x = 0) : x = 0 := by
  rcases Nat.mod_two_eq_zero_or_one x with h1 | h1
  · rw [bit1_even h1] at hz; omega
  · rw [bit1_odd h1] at hz
    have : x / 2 = 2197175160 := eq_of_xor_zero hz
    omega
theorem bitN_zero (n : Nat) {x : Nat} (h : x < 4294967296) (hz : bitN n x = 0) : x = 0 := by
  induction n generalizing x with
  | zero => exact hz
  | succ n ih => exact bit1_zero h (ih (bit1_lt h) hz)
theorem bitN_0 (n : Nat) : bitN n 0 = 0 := by have := bitN_shift n 0; simpa using this

/-- x is its high part and its low part. -/
theorem split_xor (n x : Nat) : x = (2 ^ n * (x / 2 ^ n)) ^^^ (x % 2 ^ n) := by
  apply Nat.eq_of_testBit_eq
  intro i
  rw [Nat.testBit_xor, Nat.testBit_mod_two_pow, Nat.testBit_two_pow_mul, Nat.testBit_div_two_pow]
  by_cases h : i < n
  · simp [h, show ¬ n ≤ i by omega]
  · simp [h, show n ≤ i by omega]
/-- What the table does. -/
theorem bitN4 (x : Nat) : bitN 4 x = (x / 16) ^^^ bitN 4 (x % 16) := by
  conv => lhs; rw [split_xor 4 x]
  rw [bitN_xor, bitN_shift]
theorem byte1_two (x c : Nat) : byte1 x c = bitN 4 (bitN 4 (x ^^^ c)) := bitN_add 4 4 _
theorem byte1_lt {x c : Nat} (hx : x < 4294967296) (hc : c < 256) : byte1 x c < 4294967296 :=
  bitN_lt 8 (Nat.xor_lt_two_pow (n := 32) hx (by omega))
theorem crc_lt {x : Nat} (hx : x < 4294967296) (l : List UInt8) : crc x l < 4294967296 := by
  induction l generalizing x with
  | nil => exact hx
  | cons c l ih => exact ih (byte1_lt hx c.toNat_lt)
theorem crc_nil (x : Nat) : crc x [] = x := rfl
theorem crc_cons (x : Nat) (c : UInt8) (l : List UInt8) : crc x (c :: l) = crc (byte1 x c.toNat) l := rfl
theorem crc_append (x : Nat) (l m : List UInt8) : crc x (l ++ m) = crc (crc x l) m := List.foldl_append
theorem crc_snoc (x : Nat) (l : List UInt8) (c : UInt8) : crc x (l ++ [c]) = byte1 (crc x l) c.toNat := by rw [crc_append]; rfl
theorem sumOf_lt (l : List UInt8) : sumOf l < 4294967296 := by unfold sumOf; omega
theorem sumOf_inj {l m : List UInt8} (h : sumOf l = sumOf m) : crc 4294967295 l = crc 4294967295 m := by
  have h1 := crc_lt (x := 4294967295) (by omega) l
  have h2 := crc_lt (x := 4294967295) (by omega) m
  unfold sumOf at h
  omega

/-! Bytes as one number, the first byte lowest; the stream. -/
def low : List UInt8 → Nat
  | [] => 0
  | c :: l => c.toNat + 256 * low l
/-- The register and what is left of the stream, in one number. -/
theorem run_low (x y : Nat) (l : List UInt8) : bitN (8 * l.length) (x ^^^ (low l + 256 ^ l.length * y)) = crc x l ^^^ y := by
  induction l generalizing x with
  | nil => simp [low, bitN, crc]
  | cons c l ih =>
    rw [crc_cons, ← ih (byte1 x c.toNat), List.length_cons, show 8 * (l.length + 1) = 8 + 8 * l.length by omega, bitN_add]
    congr 1
    have e : low (c :: l) + 256 ^ (l.length + 1) * y = c.toNat + 2 ^ 8 * (low l + 256 ^ l.length * y) := by
      simp only [low, Nat.pow_succ, Nat.reducePow]
      rw [Nat.mul_add, Nat.mul_comm _ 256, Nat.mul_assoc]
      omega
    have hs := split_xor 8 (c.toNat + 2 ^ 8 * (low l + 256 ^ l.length * y))
    have hc := c.toNat_lt
    rw [show (c.toNat + 2 ^ 8 * (low l + 256 ^ l.length * y)) / 2 ^ 8 = low l + 256 ^ l.length * y by omega,
      show (c.toNat + 2 ^ 8 * (low l + 256 ^ l.length * y)) % 2 ^ 8 = c.toNat by omega] at hs
    rw [e, hs, Nat.xor_comm _ c.toNat, ← Nat.xor_assoc, bitN_xor, bitN_shift]
    rfl
/-- Up to 32 bits on end are never nothing. -/
theorem bitN_burst {b k n : Nat} (hb : b < 4294967296) (h : bitN n (2 ^ k * b) = 0) : b = 0 := by
  rcases Nat.le_total n k with hn | hn
  · rw [show k = n + (k - n) by omega, Nat.pow_add, Nat.mul_assoc, bitN_shift] at h
    rcases Nat.mul_eq_zero.1 h with h | h
    · have := Nat.two_pow_pos (k - n); omega
    · exact h
  · rw [show n = k + (n - k) by omega, bitN_add, bitN_shift] at h
    exact bitN_zero _ hb h
end Go.Proofs.Ytncmmiecfkfcgaa
