/- Texts laid as one: Crc, Crc2. -/

section
/- CRC-32C in plain numbers: a bit more, a byte more, sums; bytes that differ in up to 32 bits on end have sums that differ. No program. -/
namespace Go.Proofs.Ytdllgmhipenidaa
set_option maxRecDepth 100000

/-! A bit more, a byte more, sums. -/
def bit1 (x : Nat) : Nat := if x % 2 = 0 then x / 2 else (x / 2) ^^^ 2197175160
def bitN : Nat → Nat → Nat
  | 0, x => x
  | n + 1, x => bitN n (bit1 x)
def byte1 (x c : Nat) : Nat := bitN 8 (x ^^^ c)
def crc (x : Nat) (l : List UInt8) : Nat := l.foldl (fun x c => byte1 x c.toNat) x
def sumOf (l : List UInt8) : Nat := 4294967295 - crc 4294967295 l
def fourOf (x : Nat) : List UInt8 := [UInt8.ofNat (x / 16777216), UInt8.ofNat (x / 65536), UInt8.ofNat (x / 256), UInt8.ofNat x]
def sealedOf (l : List UInt8) : List UInt8 := l ++ fourOf (sumOf l)

theorem xor_mod2 (x y : Nat) : (x ^^^ y) % 2 = (x % 2 + y % 2) % 2 := by
  have h := Nat.xor_mod_two_pow (a := x) (b := y) (n := 1)
  simp only [Nat.pow_one] at h
  rw [h]
  rcases Nat.mod_two_eq_zero_or_one x with h1 | h1 <;> rcases Nat.mod_two_eq_zero_or_one y with h2 | h2 <;> rw [h1, h2] <;> rfl
theorem xor_div2 (x y : Nat) : (x ^^^ y) / 2 = (x / 2) ^^^ (y / 2) := by
  have h := Nat.xor_div_two_pow (a := x) (b := y) (n := 1)
  simpa using h

theorem eq_of_xor_zero {x y : Nat} (h : x ^^^ y = 0) : x = y := by
  have := congrArg (· ^^^ y) h
  simpa [Nat.xor_assoc] using this
theorem bit1_even {x : Nat} (h : x % 2 = 0) : bit1 x = x / 2 := if_pos h
theorem bit1_odd {x : Nat} (h : x % 2 = 1) : bit1 x = (x / 2) ^^^ 2197175160 := if_neg (by omega)
theorem bit1_xor (x y : Nat) : bit1 (x ^^^ y) = bit1 x ^^^ bit1 y := by
  have hm := xor_mod2 x y
  have hd := xor_div2 x y
  rcases Nat.mod_two_eq_zero_or_one x with h1 | h1 <;> rcases Nat.mod_two_eq_zero_or_one y with h2 | h2 <;> rw [h1, h2] at hm
  · rw [bit1_even hm, bit1_even h1, bit1_even h2, hd]
  · rw [bit1_odd hm, bit1_even h1, bit1_odd h2, hd, Nat.xor_assoc]
  · rw [bit1_odd hm, bit1_odd h1, bit1_even h2, hd, Nat.xor_assoc, Nat.xor_assoc, Nat.xor_comm (y / 2)]
  · rw [bit1_even hm, bit1_odd h1, bit1_odd h2, hd, Nat.xor_assoc, Nat.xor_comm (y / 2), ← Nat.xor_assoc 2197175160, Nat.xor_self, Nat.zero_xor]
theorem bitN_xor (n x y : Nat) : bitN n (x ^^^ y) = bitN n x ^^^ bitN n y := by
  induction n generalizing x y with
  | zero => rfl
  | succ n ih => unfold bitN; rw [bit1_xor, ih]
theorem bitN_add (m n x : Nat) : bitN (m + n) x = bitN n (bitN m x) := by
  induction m generalizing x with
  | zero => simp [bitN]
  | succ m ih => rw [show m + 1 + n = (m + n) + 1 by omega]; simp only [bitN]; exact ih _
/-- Zeroes fall out. -/
theorem bitN_shift (n x : Nat) : bitN n (2 ^ n * x) = x := by
  induction n generalizing x with
  | zero => simp [bitN]
  | succ n ih =>
    unfold bitN
    have : 2 ^ (n + 1) * x = 2 * (2 ^ n * x) := by rw [Nat.pow_succ, Nat.mul_comm (2 ^ n) 2, Nat.mul_assoc]
    rw [this, bit1_even (by omega), Nat.mul_div_cancel_left _ (by omega)]
    exact ih x
theorem bit1_lt {x : Nat} (h : x < 4294967296) : bit1 x < 4294967296 := by
  unfold bit1
  split
  · omega
  · exact Nat.xor_lt_two_pow (n := 32) (by omega) (by omega)
theorem bitN_lt (n : Nat) {x : Nat} (h : x < 4294967296) : bitN n x < 4294967296 := by
  induction n generalizing x with
  | zero => exact h
  | succ n ih => exact ih (bit1_lt h)
theorem bit1_zero {x : Nat} (h : x < 4294967296) (hz : bit1 x = 0) : x = 0 := by
  rcases Nat.mod_two_eq_zero_or_one x with h1 | h1
  · rw [bit1_even h1] at hz; omega
  · rw [bit1_odd h1] at hz
    have : x / 2 = 2197175160 := eq_of_xor_zero hz
    omega
theorem bitN_zero (n : Nat) {x : Nat} (h : x < 4294967296) (hz : bitN n x = 0) : x = 0 := by
  induction n generalizing x with
  | zero => exact hz
  | succ n ih => exact bit1_zero h (ih (bit1_lt h) hz)
theorem bitN_0 (n : Nat) : bitN n 0 = 0 := by have := bitN_shift n 0; simpa using this

/-- x is its high part and its low part. -/
theorem split_xor (n x : Nat) : x = (2 ^ n * (x / 2 ^ n)) ^^^ (x % 2 ^ n) := by
  apply Nat.eq_of_testBit_eq
  intro i
  rw [Nat.testBit_xor, Nat.testBit_mod_two_pow, Nat.testBit_two_pow_mul, Nat.testBit_div_two_pow]
  by_cases h : i < n
  · simp [h, show ¬ n ≤ i by omega]
  · simp [h, show n ≤ i by omega]
/-- What the table does. -/
theorem bitN4 (x : Nat) : bitN 4 x = (x / 16) ^^^ bitN 4 (x % 16) := by
  conv => lhs; rw [split_xor 4 x]
  rw [bitN_xor, bitN_shift]
theorem byte1_two (x c : Nat) : byte1 x c = bitN 4 (bitN 4 (x ^^^ c)) := bitN_add 4 4 _
theorem byte1_lt {x c : Nat} (hx : x < 4294967296) (hc : c < 256) : byte1 x c < 4294967296 :=
  bitN_lt 8 (Nat.xor_lt_two_pow (n := 32) hx (by omega))
theorem crc_lt {x : Nat} (hx : x < 4294967296) (l : List UInt8) : crc x l < 4294967296 := by
  induction l generalizing x with
  | nil => exact hx
  | cons c l ih => exact ih (byte1_lt hx c.toNat_lt)
theorem crc_nil (x : Nat) : crc x [] = x := rfl
theorem crc_cons (x : Nat) (c : UInt8) (l : List UInt8) : crc x (c :: l) = crc (byte1 x c.toNat) l := rfl
theorem crc_append (x : Nat) (l m : List UInt8) : crc x (l ++ m) = crc (crc x l) m := List.foldl_append
theorem crc_snoc (x : Nat) (l : List UInt8) (c : UInt8) : crc x (l ++ [c]) = byte1 (crc x l) c.toNat := by rw [crc_append]; rfl
theorem sumOf_lt (l : List UInt8) : sumOf l < 4294967296 := by unfold sumOf; omega
theorem sumOf_inj {l m : List UInt8} (h : sumOf l = sumOf m) : crc 4294967295 l = crc 4294967295 m := by
  have h1 := crc_lt (x := 4294967295) (by omega) l
  have h2 := crc_lt (x := 4294967295) (by omega) m
  unfold sumOf at h
  omega

/-! Bytes as one number, the first byte lowest; the stream. -/
def low : List UInt8 → Nat
  | [] => 0
  | c :: l => c.toNat + 256 * low l
/-- The register and what is left of the stream, in one number. -/
theorem run_low (x y : Nat) (l : List UInt8) : bitN (8 * l.length) (x ^^^ (low l + 256 ^ l.length * y)) = crc x l ^^^ y := by
  induction l generalizing x with
  | nil => simp [low, bitN, crc]
  | cons c l ih =>
    rw [crc_cons, ← ih (byte1 x c.toNat), List.length_cons, show 8 * (l.length + 1) = 8 + 8 * l.length by omega, bitN_add]
    congr 1
    have e : low (c :: l) + 256 ^ (l.length + 1) * y = c.toNat + 2 ^ 8 * (low l + 256 ^ l.length * y) := by
      simp only [low, Nat.pow_succ, Nat.reducePow]
      rw [Nat.mul_add, Nat.mul_comm _ 256, Nat.mul_assoc]
      omega
    have hs := split_xor 8 (c.toNat + 2 ^ 8 * (low l + 256 ^ l.length * y))
    have hc := c.toNat_lt
    rw [show (c.toNat + 2 ^ 8 * (low l + 256 ^ l.length * y)) / 2 ^ 8 = low l + 256 ^ l.length * y by omega,
      show (c.toNat + 2 ^ 8 * (low l + 256 ^ l.length * y)) % 2 ^ 8 = c.toNat by omega] at hs
    rw [e, hs, Nat.xor_comm _ c.toNat, ← Nat.xor_assoc, bitN_xor, bitN_shift]
    rfl
/-- Up to 32 bits on end are never nothing. -/
theorem bitN_burst {b k n : Nat} (hb : b < 4294967296) (h : bitN n (2 ^ k * b) = 0) : b = 0 := by
  rcases Nat.le_total n k with hn | hn
  · rw [show k = n + (k - n) by omega, Nat.pow_add, Nat.mul_assoc, bitN_shift] at h
    rcases Nat.mul_eq_zero.1 h with h | h
    · have := Nat.two_pow_pos (k - n); omega
    · exact h
  · rw [show n = k + (n - k) by omega, bitN_add, bitN_shift] at h
    exact bitN_zero _ hb h
end Go.Proofs.Ytdllgmhipenidaa
end

section
/- CRC-32C in plain numbers, its second part: bytes that are other ones; up to 32 bits on end. No program. -/
namespace Go.Proofs.Ytdllgmhipenidaa
set_option maxRecDepth 100000
/-! Bytes changed. -/
theorem crc_inj (l : List UInt8) {a b : Nat} (ha : a < 4294967296) (hb : b < 4294967296) (h : crc a l = crc b l) : a = b := by
  induction l generalizing a b with
  | nil => exact h
  | cons c l ih =>
    have hc := c.toNat_lt
    have h1 := ih (byte1_lt ha hc) (byte1_lt hb hc) h
    unfold byte1 at h1
    have h2 : bitN 8 ((a ^^^ c.toNat) ^^^ (b ^^^ c.toNat)) = 0 := by rw [bitN_xor, h1, Nat.xor_self]
    have h3 := bitN_zero 8 (Nat.xor_lt_two_pow (n := 32) (Nat.xor_lt_two_pow (n := 32) ha (by omega)) (Nat.xor_lt_two_pow (n := 32) hb (by omega))) h2
    have h4 := eq_of_xor_zero h3
    have h5 := congrArg (· ^^^ c.toNat) h4
    simpa [Nat.xor_assoc] using h5
theorem byte1_inj {s c d : Nat} (hs : s < 4294967296) (hc : c < 256) (hd : d < 256) (h : byte1 s c = byte1 s d) : c = d := by
  unfold byte1 at h
  have h2 : bitN 8 ((s ^^^ c) ^^^ (s ^^^ d)) = 0 := by rw [bitN_xor, h, Nat.xor_self]
  have h3 := bitN_zero 8 (Nat.xor_lt_two_pow (n := 32) (Nat.xor_lt_two_pow (n := 32) hs (by omega)) (Nat.xor_lt_two_pow (n := 32) hs (by omega))) h2
  have h4 := eq_of_xor_zero h3
  have h5 := congrArg (s ^^^ ·) h4
  simpa [← Nat.xor_assoc] using h5
/-- A byte that is another one lets the sum be another one. -/
theorem sumOf_set (l : List UInt8) (k : Nat) (hk : k < l.length) (y : UInt8) : sumOf l = sumOf (l.set k y) ↔ l[k] = y := by
  constructor
  · intro h
    have h1 := sumOf_inj h
    have e : l = l.take k ++ l[k] :: l.drop (k + 1) := by rw [← List.drop_eq_getElem_cons hk, List.take_append_drop]
    have e2 : l.set k y = l.take k ++ y :: l.drop (k + 1) := List.set_eq_take_append_cons_drop.trans (if_pos hk)
    rw [e2] at h1
    conv at h1 => lhs; rw [e]
    rw [crc_append, crc_append, crc_cons, crc_cons] at h1
    have hs := crc_lt (x := 4294967295) (by omega) (l.take k)
    have h2 := crc_inj _ (byte1_lt hs l[k].toNat_lt) (byte1_lt hs y.toNat_lt) h1
    exact UInt8.toNat_inj.1 (byte1_inj hs l[k].toNat_lt y.toNat_lt h2)
  · rintro rfl
    rw [List.set_getElem_self]

/-! Rows of bytes, xor by xor. -/
def zx (l m : List UInt8) : List UInt8 := List.zipWith (· ^^^ ·) l m
theorem zx_length (l m : List UInt8) : (zx l m).length = min l.length m.length := by simp [zx]
theorem crc_zx (l m : List UInt8) (h : l.length = m.length) (x y : Nat) : crc (x ^^^ y) (zx l m) = crc x l ^^^ crc y m := by
  induction l generalizing m x y with
  | nil =>
    obtain rfl : m = [] := List.eq_nil_of_length_eq_zero (by simpa using h.symm)
    rfl
  | cons c l ih =>
    cases m with
    | nil => simp at h
    | cons d m =>
      have h' : l.length = m.length := by simpa using h
      show crc (byte1 (x ^^^ y) (c ^^^ d).toNat) (zx l m) = _
      rw [crc_cons, crc_cons, ← ih m h']
      congr 1
      unfold byte1
      rw [UInt8.toNat_xor, ← bitN_xor]
      congr 1
      rw [Nat.xor_assoc, Nat.xor_assoc]
      congr 1
      rw [← Nat.xor_assoc, ← Nat.xor_assoc, Nat.xor_comm y]
theorem not_xor {a : Nat} (ha : a < 4294967296) : 4294967295 - a = 4294967295 ^^^ a := by
  apply Nat.eq_of_testBit_eq
  intro i
  rw [Nat.testBit_xor, show (4294967295 : Nat) = 2 ^ 32 - 1 from rfl, Nat.testBit_two_pow_sub_one, show 2 ^ 32 - 1 - a = 2 ^ 32 - (a + 1) by omega, Nat.testBit_two_pow_sub_succ ha]
  by_cases hi : i < 32
  · simp [hi]
  · have : a.testBit i = false := Nat.testBit_lt_two_pow (Nat.lt_of_lt_of_le ha (show 2 ^ 32 ≤ 2 ^ i from Nat.pow_le_pow_right (by omega) (by omega)))
    simp [hi, this]
theorem sumOf_zx (l m : List UInt8) (h : l.length = m.length) : sumOf (zx l m) = sumOf l ^^^ crc 0 m := by
  unfold sumOf
  rw [not_xor (crc_lt (by omega) _), not_xor (crc_lt (by omega) _)]
  have := crc_zx l m h 4294967295 0
  rw [Nat.xor_zero] at this
  rw [this, Nat.xor_assoc]
theorem ofNat_xor (a b : Nat) : UInt8.ofNat (a ^^^ b) = UInt8.ofNat a ^^^ UInt8.ofNat b := by
  apply UInt8.toNat_inj.1
  rw [UInt8.toNat_xor]
  simp only [UInt8.toNat_ofNat']
  exact Nat.xor_mod_two_pow
theorem fourOf_zx (a b : Nat) : zx (fourOf a) (fourOf b) = fourOf (a ^^^ b) := by
  unfold fourOf zx
  simp only [List.zipWith_cons_cons, List.zipWith_nil_left]
  rw [← ofNat_xor, ← ofNat_xor, ← ofNat_xor, ← ofNat_xor]
  rw [show (16777216 : Nat) = 2 ^ 24 from rfl, show (65536 : Nat) = 2 ^ 16 from rfl, show (256 : Nat) = 2 ^ 8 from rfl, ← Nat.xor_div_two_pow, ← Nat.xor_div_two_pow, ← Nat.xor_div_two_pow]
theorem zx_append {a b c d : List UInt8} (h : a.length = c.length) : zx (a ++ b) (c ++ d) = zx a c ++ zx b d := List.zipWith_append h
theorem zx_cancel (a b c : List UInt8) (h : a.length = b.length) (h' : a.length = c.length) (he : zx a b = zx a c) : b = c := by
  induction a generalizing b c with
  | nil =>
    obtain rfl : b = [] := List.eq_nil_of_length_eq_zero (by simpa using h.symm)
    obtain rfl : c = [] := List.eq_nil_of_length_eq_zero (by simpa using h'.symm)
    rfl
  | cons x a ih =>
    cases b with
    | nil => simp at h
    | cons y b =>
      cases c with
      | nil => simp at h'
      | cons z c =>
        have he' : (x ^^^ y) :: zx a b = (x ^^^ z) :: zx a c := he
        injection he' with h1 h2
        rw [ih b c (by simpa using h) (by simpa using h') h2]
        congr 1
        have := congrArg (x ^^^ ·) h1
        simpa [← UInt8.xor_assoc] using this
theorem fourOf_inj {a b : Nat} (ha : a < 4294967296) (hb : b < 4294967296) (h : fourOf a = fourOf b) : a = b := by
  unfold fourOf at h
  injection h with h1 h
  injection h with h2 h
  injection h with h3 h
  injection h with h4 h
  have k1 := congrArg UInt8.toNat h1
  have k2 := congrArg UInt8.toNat h2
  have k3 := congrArg UInt8.toNat h3
  have k4 := congrArg UInt8.toNat h4
  simp at k1 k2 k3 k4
  omega

/-- The bytes of a number as the stream has them: n of them, the lowest first; then its rest, as four bytes, the highest first. -/
def lowB (n V : Nat) : List UInt8 := (List.range n).map fun i => UInt8.ofNat (V / 256 ^ i)
def errs (n V : Nat) : List UInt8 := lowB n V ++ fourOf (V / 256 ^ n)
theorem lowB_length (n V : Nat) : (lowB n V).length = n := by simp [lowB]
theorem errs_length (n V : Nat) : (errs n V).length = n + 4 := by simp [errs, lowB, fourOf]
theorem lowB_succ (n V : Nat) : lowB (n + 1) V = UInt8.ofNat V :: lowB n (V / 256) := by
  unfold lowB
  rw [List.range_succ_eq_map, List.map_cons, List.map_map]
  simp only [Nat.pow_zero, Nat.div_one]
  congr 1
  apply List.map_congr_left
  intro i _
  simp only [Function.comp, Nat.pow_succ, Nat.mul_comm _ 256, Nat.div_div_eq_div_mul]
theorem low_lowB (n V : Nat) : low (lowB n V) + 256 ^ n * (V / 256 ^ n) = V := by
  induction n generalizing V with
  | zero => simp [lowB, low]
  | succ n ih =>
    rw [lowB_succ]
    simp only [low]
    have := ih (V / 256)
    rw [Nat.div_div_eq_div_mul] at this
    rw [show 256 ^ (n + 1) = 256 * 256 ^ n by rw [Nat.pow_succ, Nat.mul_comm], Nat.mul_assoc]
    simp only [UInt8.toNat_ofNat', Nat.reducePow]
    omega
theorem errs_xor (n V W : Nat) : errs n (V ^^^ W) = zx (errs n V) (errs n W) := by
  unfold errs
  rw [zx_append (by rw [lowB_length, lowB_length]), fourOf_zx]
  congr 1
  · unfold lowB zx
    rw [List.zipWith_map, List.zipWith_self]
    apply List.map_congr_left
    intro i _
    rw [← ofNat_xor, show (256 : Nat) ^ i = 2 ^ (8 * i) by rw [Nat.pow_mul], Nat.xor_div_two_pow]
  · rw [show (256 : Nat) ^ n = 2 ^ (8 * n) by rw [Nat.pow_mul], Nat.xor_div_two_pow]
/-- What is sealed, up to 32 bits on end changed, isn't right. -/
theorem burst_wrong (xs : List UInt8) (k b : Nat) (hb : b < 4294967296) (h0 : b ≠ 0) (hk : 2 ^ k * b < 256 ^ xs.length * 4294967296) :
    (zx (sealedOf xs) (errs xs.length (2 ^ k * b))).drop xs.length ≠ fourOf (sumOf ((zx (sealedOf xs) (errs xs.length (2 ^ k * b))).take xs.length)) := by
  intro h
  unfold sealedOf errs at h
  have hl := lowB_length xs.length (2 ^ k * b)
  rw [zx_append hl.symm] at h
  have hz : (zx xs (lowB xs.length (2 ^ k * b))).length = xs.length := by rw [zx_length, hl, Nat.min_self]
  rw [List.drop_left' hz, List.take_left' hz, fourOf_zx, sumOf_zx _ _ hl.symm] at h
  have hF : 2 ^ k * b / 256 ^ xs.length < 4294967296 := Nat.div_lt_of_lt_mul hk
  have hc := crc_lt (x := 0) (by omega) (lowB xs.length (2 ^ k * b))
  have hs := sumOf_lt xs
  have h1 := fourOf_inj (Nat.xor_lt_two_pow (n := 32) hs hF) (Nat.xor_lt_two_pow (n := 32) hs hc) h
  have h2 := congrArg (sumOf xs ^^^ ·) h1
  simp only [← Nat.xor_assoc, Nat.xor_self, Nat.zero_xor] at h2
  have h3 := run_low 0 (2 ^ k * b / 256 ^ xs.length) (lowB xs.length (2 ^ k * b))
  rw [hl, low_lowB, Nat.zero_xor, ← h2, Nat.xor_self] at h3
  exact h0 (bitN_burst hb h3)

/-! The order in which bits go. -/
def pos (n q : Nat) : Nat := if q < 8 * n then q else 8 * (n + (3 - (q - 8 * n) / 8)) + (q - 8 * n) % 8
theorem pos_lt {n q : Nat} (h : q < 8 * (n + 4)) : pos n q < 8 * (n + 4) := by
  unfold pos
  split
  · omega
  · omega
theorem fourOf_bit : ∀ r, r < 32 → ∀ j, j < 4 → (fourOf (2 ^ r))[j]? = some (if j = 3 - r / 8 then UInt8.ofNat (2 ^ (r % 8)) else 0) := by decide +kernel
theorem lowB_bit (n q j : Nat) (hj : j < n) : (lowB n (2 ^ q))[j]? = some (if j = q / 8 then UInt8.ofNat (2 ^ (q % 8)) else 0) := by
  have e : (lowB n (2 ^ q))[j]? = some (UInt8.ofNat (2 ^ q / 256 ^ j)) := by simp [lowB, hj]
  rw [e]
  congr 1
  rw [show (256 : Nat) ^ j = 2 ^ (8 * j) by rw [Nat.pow_mul]]
  by_cases h1 : j = q / 8
  · subst h1
    rw [if_pos rfl, Nat.pow_div (by omega) (by omega), show q - 8 * (q / 8) = q % 8 by omega]
  · rw [if_neg h1]
    by_cases h2 : j < q / 8
    · rw [Nat.pow_div (by omega) (by omega)]
      obtain ⟨d, hd⟩ : ∃ d, q - 8 * j = 8 + d := ⟨q - 8 * j - 8, by omega⟩
      rw [hd, Nat.pow_add]
      apply UInt8.toNat_inj.1
      simp
    · rw [Nat.div_eq_of_lt (Nat.pow_lt_pow_right (by omega) (by omega))]
      rfl
theorem errs_bit (n q : Nat) (hq : q < 8 * (n + 4)) (j : Nat) (hj : j < n + 4) : (errs n (2 ^ q))[j]? = some (if j = pos n q / 8 then UInt8.ofNat (2 ^ (pos n q % 8)) else 0) := by
  unfold errs
  rw [List.getElem?_append, lowB_length]
  rw [show (256 : Nat) ^ n = 2 ^ (8 * n) by rw [Nat.pow_mul]]
  by_cases h1 : q < 8 * n
  · have hp : pos n q = q := if_pos h1
    rw [hp]
    by_cases h2 : j < n
    · rw [if_pos h2, lowB_bit n q j h2]
    · rw [if_neg h2, Nat.div_eq_of_lt (Nat.pow_lt_pow_right (by omega) h1), if_neg (by omega)]
      have : ∀ i, i < 4 → (fourOf 0)[i]? = some 0 := by decide
      exact this _ (by omega)
  · have hp : pos n q = 8 * (n + (3 - (q - 8 * n) / 8)) + (q - 8 * n) % 8 := if_neg h1
    rw [Nat.pow_div (by omega) (by omega)]
    by_cases h2 : j < n
    · rw [if_pos h2, lowB_bit n q j h2, if_neg (by omega), if_neg (by omega)]
    · rw [if_neg h2, fourOf_bit (q - 8 * n) (by omega) (j - n) (by omega)]
      have e1 : pos n q / 8 = n + (3 - (q - 8 * n) / 8) := by omega
      have e2 : pos n q % 8 = (q - 8 * n) % 8 := by omega
      rw [e1, e2]
      by_cases h3 : j - n = 3 - (q - 8 * n) / 8
      · rw [if_pos h3, if_pos (by omega)]
      · rw [if_neg h3, if_neg (by omega)]
/-- One bit more turned: one byte is another one. -/
theorem zx_bit (n q : Nat) (hq : q < 8 * (n + 4)) (l : List UInt8) (hl : l.length = n + 4) (d : UInt8) (hd : l[pos n q / 8]? = some d) :
    zx l (errs n (2 ^ q)) = l.set (pos n q / 8) (d ^^^ UInt8.ofNat (2 ^ (pos n q % 8))) := by
  apply List.ext_getElem?
  intro j
  by_cases hj : j < n + 4
  · unfold zx
    rw [List.getElem?_zipWith, errs_bit n q hq j hj, List.getElem?_set]
    by_cases h : pos n q / 8 = j
    · subst h
      rw [hd, if_pos rfl, if_pos rfl, if_pos (by omega)]
    · rw [if_neg (fun e => h e.symm), if_neg h]
      obtain ⟨u, hu⟩ : ∃ u, l[j]? = some u := ⟨l[j], by rw [List.getElem?_eq_getElem]⟩
      rw [hu]
      simp
  · rw [List.getElem?_eq_none (by rw [zx_length, errs_length]; omega), List.getElem?_eq_none (by simp; omega)]
theorem zx_assoc (a b c : List UInt8) : zx (zx a b) c = zx a (zx b c) := by
  induction a generalizing b c with
  | nil => rfl
  | cons x a ih =>
    cases b with
    | nil => cases c <;> rfl
    | cons y b =>
      cases c with
      | nil => rfl
      | cons z c =>
        show ((x ^^^ y) ^^^ z) :: zx (zx a b) c = (x ^^^ (y ^^^ z)) :: zx a (zx b c)
        rw [ih, UInt8.xor_assoc]
/-- The bits of a number ahead of bit i, and bit i. -/
theorem low_bits_succ (b i : Nat) : b % 2 ^ (i + 1) = b % 2 ^ i ^^^ (2 ^ i * (b / 2 ^ i % 2)) := by
  apply Nat.eq_of_testBit_eq
  intro j
  rw [Nat.testBit_xor, Nat.testBit_mod_two_pow, Nat.testBit_mod_two_pow, Nat.testBit_two_pow_mul]
  by_cases h1 : j < i
  · simp [h1, show j < i + 1 by omega, show ¬ i ≤ j by omega]
  · by_cases h2 : j = i
    · subst h2
      simp [Nat.testBit_eq_decide_div_mod_eq]
    · have : (b / 2 ^ i % 2).testBit (j - i) = false := Nat.testBit_lt_two_pow (Nat.lt_of_lt_of_le (Nat.mod_lt _ (by omega)) (show 2 ≤ 2 ^ (j - i) from by
        have := Nat.pow_le_pow_right (n := 2) (by omega) (show 1 ≤ j - i by omega)
        simpa using this))
      simp [h1, show ¬ j < i + 1 by omega, this]
theorem pow_mul_xor (k a b : Nat) : 2 ^ k * (a ^^^ b) = (2 ^ k * a) ^^^ (2 ^ k * b) := by
  apply Nat.eq_of_testBit_eq
  intro j
  rw [Nat.testBit_xor, Nat.testBit_two_pow_mul, Nat.testBit_two_pow_mul, Nat.testBit_two_pow_mul, Nat.testBit_xor]
  by_cases h : k ≤ j <;> simp [h]
/-- As far as bit i. -/
def hit (xs : List UInt8) (k b i : Nat) : List UInt8 := zx (sealedOf xs) (errs xs.length (2 ^ k * (b % 2 ^ i)))
theorem hit_length (xs : List UInt8) (k b i : Nat) : (hit xs k b i).length = xs.length + 4 := by
  unfold hit
  rw [zx_length, errs_length]
  simp [sealedOf, fourOf]
theorem errs_zero (n : Nat) : errs n 0 = List.replicate (n + 4) 0 := by
  unfold errs lowB
  rw [List.replicate_append_replicate.symm]
  congr 1
  · apply List.ext_getElem
    · simp
    · intro i h1 h2
      simp
  · simp [fourOf]
theorem zx_zero (l : List UInt8) (n : Nat) (h : l.length = n) : zx l (List.replicate n 0) = l := by
  subst h
  unfold zx
  apply List.ext_getElem
  · simp
  · intro i h1 h2
    simp
theorem hit_zero (xs : List UInt8) (k b : Nat) : hit xs k b 0 = sealedOf xs := by
  unfold hit
  rw [Nat.pow_zero, Nat.mod_one, Nat.mul_zero, errs_zero, zx_zero _ _ (by simp [sealedOf, fourOf])]
theorem hit_not (xs : List UInt8) (k b i : Nat) (h : b / 2 ^ i % 2 = 0) : hit xs k b (i + 1) = hit xs k b i := by
  unfold hit
  rw [low_bits_succ, h, Nat.mul_zero, Nat.xor_zero]
theorem hit_bit (xs : List UInt8) (k b i : Nat) (hk : k + i < 8 * (xs.length + 4)) (h : b / 2 ^ i % 2 = 1) (d : UInt8) (hd : (hit xs k b i)[pos xs.length (k + i) / 8]? = some d) :
    hit xs k b (i + 1) = (hit xs k b i).set (pos xs.length (k + i) / 8) (d ^^^ UInt8.ofNat (2 ^ (pos xs.length (k + i) % 8))) := by
  rw [← zx_bit xs.length (k + i) hk _ (hit_length xs k b i) d hd]
  unfold hit
  rw [low_bits_succ, h, Nat.mul_one, pow_mul_xor, ← Nat.pow_add, errs_xor, zx_assoc]
theorem hit_wrong (xs : List UInt8) (k b : Nat) (hb : b < 4294967296) (h0 : b ≠ 0) (hk : k + 31 < 8 * (xs.length + 4)) :
    (hit xs k b 32).drop xs.length ≠ fourOf (sumOf ((hit xs k b 32).take xs.length)) := by
  unfold hit
  rw [Nat.mod_eq_of_lt (show b < 2 ^ 32 by omega)]
  refine burst_wrong xs k b hb h0 ?_
  have h1 : 2 ^ k * b < 2 ^ k * 2 ^ 32 := Nat.mul_lt_mul_of_pos_left hb (Nat.two_pow_pos k)
  have h2 : 2 ^ k * 2 ^ 32 ≤ 2 ^ (8 * xs.length + 32) := by rw [← Nat.pow_add]; exact Nat.pow_le_pow_right (by omega) (by omega)
  rw [show 256 ^ xs.length * 4294967296 = 2 ^ (8 * xs.length + 32) by rw [Nat.pow_add, Nat.pow_mul]]
  exact Nat.lt_of_lt_of_le h1 h2

/-! What is right. -/
def rightOf (xs : List UInt8) : Bool := decide (4 ≤ xs.length ∧ sealedOf (xs.take (xs.length - 4)) = xs)
theorem rightOf_short {xs : List UInt8} (h : xs.length < 4) : rightOf xs = false := by
  unfold rightOf
  rw [decide_eq_false]
  omega
theorem rightOf_long {xs : List UInt8} {k : Nat} (h : xs.length = k + 4) : rightOf xs = decide (xs.drop k = fourOf (sumOf (xs.take k))) := by
  unfold rightOf
  apply decide_eq_decide.2
  rw [show xs.length - 4 = k by omega]
  unfold sealedOf
  constructor
  · intro ⟨_, h2⟩
    have := congrArg (List.drop k) h2
    rw [List.drop_left' (by simp; omega)] at this
    exact this.symm
  · intro h2
    refine ⟨by omega, ?_⟩
    rw [← h2, List.take_append_drop]
theorem sealedOf_length (ys : List UInt8) : (sealedOf ys).length = ys.length + 4 := by simp [sealedOf, fourOf]
theorem sealedOf_take (ys : List UInt8) : (sealedOf ys).take ys.length = ys := by simp [sealedOf]
theorem rightOf_sealed (ys : List UInt8) : rightOf (sealedOf ys) = true := by
  unfold rightOf
  rw [decide_eq_true_eq, sealedOf_length]
  exact ⟨by omega, by rw [Nat.add_sub_cancel, sealedOf_take]⟩
end Go.Proofs.Ytdllgmhipenidaa
end
