/- Cells as the document has them: plain lists. No program. -/
import Derived.Test.YtdllgmhipenidaaCrcM
import Derived.Test.YtdllgmhipenidaaDisk0
namespace Go.Proofs.Ytdllgmhipenidaa
set_option maxRecDepth 100000
set_option linter.unusedVariables false

/-- The number of bytes, the highest first. -/
def num8 : List UInt8 → Nat
  | [] => 0
  | b :: l => b.toNat * 256 ^ l.length + num8 l
def eight (x : Nat) : List UInt8 := [UInt8.ofNat (x / 72057594037927936), UInt8.ofNat (x / 281474976710656), UInt8.ofNat (x / 1099511627776), UInt8.ofNat (x / 4294967296), UInt8.ofNat (x / 16777216), UInt8.ofNat (x / 65536), UInt8.ofNat (x / 256), UInt8.ofNat x]
theorem eight_length (x : Nat) : (eight x).length = 8 := rfl
theorem num8_lt : ∀ l : List UInt8, num8 l < 256 ^ l.length
  | [] => by simp [num8]
  | b :: l => by
    have ih := num8_lt l
    have hb := b.toNat_lt
    have h1 : b.toNat * 256 ^ l.length ≤ 255 * 256 ^ l.length := Nat.mul_le_mul_right _ (by omega)
    have e : 256 ^ (l.length + 1) = 255 * 256 ^ l.length + 256 ^ l.length := by rw [Nat.pow_succ]; omega
    simp only [num8, List.length_cons]
    rw [e]
    omega
theorem num8_append : ∀ a b : List UInt8, num8 (a ++ b) = num8 a * 256 ^ b.length + num8 b
  | [], b => by simp [num8]
  | x :: a, b => by
    rw [List.cons_append, num8, num8_append a b, num8, List.length_append, Nat.pow_add, Nat.add_mul, Nat.mul_assoc]
    omega
theorem num8_inj : ∀ a b : List UInt8, a.length = b.length → num8 a = num8 b → a = b
  | [], [], _, _ => rfl
  | [], _ :: _, h, _ => by simp at h
  | _ :: _, [], h, _ => by simp at h
  | x :: a, y :: b, h, e => by
    have hl : a.length = b.length := by simpa using h
    simp only [num8, hl] at e
    have ha := num8_lt a
    have hb := num8_lt b
    rw [hl] at ha
    have hxy : x.toNat = y.toNat := by
      have h1 : (x.toNat * 256 ^ b.length + num8 a) / 256 ^ b.length = x.toNat := by
        rw [Nat.mul_comm, Nat.mul_add_div (by exact Nat.pow_pos (by omega)), Nat.div_eq_of_lt ha, Nat.add_zero]
      have h2 : (y.toNat * 256 ^ b.length + num8 b) / 256 ^ b.length = y.toNat := by
        rw [Nat.mul_comm, Nat.mul_add_div (by exact Nat.pow_pos (by omega)), Nat.div_eq_of_lt hb, Nat.add_zero]
      rw [← h1, ← h2, e]
    have := num8_inj a b hl (by rw [hxy] at e; omega)
    rw [this, UInt8.toNat_inj.1 hxy]
theorem num8_eight {x : Nat} (h : x < 18446744073709551616) : num8 (eight x) = x := by
  simp only [eight, num8, List.length_cons, List.length_nil, UInt8.toNat_ofNat']
  omega
theorem num8_lt8 {l : List UInt8} (h : l.length = 8) : num8 l < 18446744073709551616 := by
  have := num8_lt l
  rw [h] at this
  exact this
theorem eight_num8 {l : List UInt8} (h : l.length = 8) : eight (num8 l) = l :=
  num8_inj _ _ (by rw [h]; rfl) (num8_eight (num8_lt8 h))
theorem eight_inj {x y : Nat} (hx : x < 18446744073709551616) (hy : y < 18446744073709551616) (h : eight x = eight y) : x = y := by
  rw [← num8_eight hx, ← num8_eight hy, h]

/-- The number in eight bytes from a place on. -/
def turnN (b : List UInt8) (k : Nat) : Nat := num8 ((b.drop k).take 8)
theorem turnN_lt {b : List UInt8} (h : b.length = 64) {k : Nat} (hk : k ≤ 56) : turnN b k < 18446744073709551616 := num8_lt8 (by simp; omega)
theorem eight_turnN {b : List UInt8} (h : b.length = 64) {k : Nat} (hk : k ≤ 56) : eight (turnN b k) = (b.drop k).take 8 := eight_num8 (by simp; omega)
def rightC (b : List UInt8) : Bool := rightOf (b.take 56) && decide (turnN b 0 = turnN b 56) && decide (turnN b 0 ≠ 0) && decide ((b.getD 8 0).toNat ≤ 43)
def headC (t : Nat) (s : List UInt8) : List UInt8 := eight t ++ [UInt8.ofNat s.length] ++ (s ++ List.replicate (43 - s.length) 0)
def layC (t : Nat) (s : List UInt8) : List UInt8 := sealedOf (headC t s) ++ eight t
def dataC (b : List UInt8) : List UInt8 := (b.drop 9).take (b.getD 8 0).toNat
theorem headC_length {t : Nat} {s : List UInt8} (h : s.length ≤ 43) : (headC t s).length = 52 := by
  simp [headC, eight_length]
  omega
theorem layC_length {t : Nat} {s : List UInt8} (h : s.length ≤ 43) : (layC t s).length = 64 := by
  simp [layC, sealedOf_length, headC_length h, eight_length]
theorem layC_take56 {t : Nat} {s : List UInt8} (h : s.length ≤ 43) : (layC t s).take 56 = sealedOf (headC t s) := by
  unfold layC
  rw [List.take_left' (by rw [sealedOf_length, headC_length h])]
theorem layC_drop56 {t : Nat} {s : List UInt8} (h : s.length ≤ 43) : (layC t s).drop 56 = eight t := by
  unfold layC
  rw [List.drop_left' (by rw [sealedOf_length, headC_length h])]
theorem layC_take8 (t : Nat) (s : List UInt8) : (layC t s).take 8 = eight t := by
  simp [layC, sealedOf, headC, eight]
theorem layC_first {t : Nat} (ht : t < 18446744073709551616) (s : List UInt8) : turnN (layC t s) 0 = t := by
  unfold turnN
  rw [List.drop_zero, layC_take8, num8_eight ht]
theorem layC_last {t : Nat} (ht : t < 18446744073709551616) {s : List UInt8} (h : s.length ≤ 43) : turnN (layC t s) 56 = t := by
  unfold turnN
  rw [layC_drop56 h, List.take_of_length_le (by rw [eight_length]; omega), num8_eight ht]
theorem layC_8 (t : Nat) {s : List UInt8} (h : s.length ≤ 43) : ((layC t s).getD 8 0).toNat = s.length := by
  have e : (layC t s).getD 8 0 = UInt8.ofNat s.length := by simp [layC, sealedOf, headC, eight, List.getD_eq_getElem?_getD]
  rw [e, UInt8.toNat_ofNat']
  omega
theorem layC_right {t : Nat} (ht : t < 18446744073709551616) (h0 : t ≠ 0) {s : List UInt8} (h : s.length ≤ 43) : rightC (layC t s) = true := by
  unfold rightC
  rw [layC_take56 h, layC_first ht, layC_last ht h, layC_8 t h, rightOf_sealed]
  simp [h0, h]
theorem layC_data (t : Nat) {s : List UInt8} (h : s.length ≤ 43) : dataC (layC t s) = s := by
  unfold dataC
  rw [layC_8 t h]
  have e : (layC t s).drop 9 = s ++ (List.replicate (43 - s.length) 0 ++ fourOf (sumOf (headC t s)) ++ eight t) := by
    simp [layC, sealedOf, headC, eight]
  rw [e, List.take_left']
  rfl

/-- A cell, but for its disk. -/
structure PCell where
  at_ : Nat
  spare : Nat
  told : List UInt8
  great : Nat
  err : Int
def PCell.data (c : PCell) : List UInt8 := dataC c.told
def PCell.turn (c : PCell) : Nat := turnN c.told 0
def PCell.take (c : PCell) (half : Nat) (b : List UInt8) : PCell :=
  if rightC b = true ∧ c.turn < turnN b 0 then { c with great := max c.great (max (turnN b 0) (turnN b 56)), told := b, spare := 1 - half }
  else { c with great := max c.great (max (turnN b 0) (turnN b 56)) }
def cellNew (at_ : Nat) : PCell := ⟨at_, 0, zeros64, 0, 0⟩
def cellOpen (d : PD) (at_ : Nat) : PCell := ((cellNew at_).take 0 (d.read (at_ : Int)).1).take 1 (d.read ((at_ : Int) + 1)).1
def PCell.fail (c : PCell) (e : Int) : PCell := { c with err := e }
def PCell.tell (c : PCell) (s : List UInt8) : PCell := { c with told := layC (c.great + 1) s, spare := 1 - c.spare, great := c.great + 1 }
/-- The block goes where none tells, and is for good. -/
def PCell.put (c : PCell) (d : PD) (b : List UInt8) : PD × Int :=
  if (d.write ((c.at_ + c.spare : Nat) : Int) b).2 ≠ 0 then d.write ((c.at_ + c.spare : Nat) : Int) b else (d.write ((c.at_ + c.spare : Nat) : Int) b).1.sync
def PCell.set (c : PCell) (d : PD) (s : List UInt8) : PD × PCell × Int :=
  if 43 < s.length then (d, c, 13) else if c.err ≠ 0 then (d, c, c.err) else if c.great + 1 = 18446744073709551616 then (d, c, 37) else
  if (c.put d (layC (c.great + 1) s)).2 ≠ 0 then ((c.put d (layC (c.great + 1) s)).1, c.fail (c.put d (layC (c.great + 1) s)).2, (c.put d (layC (c.great + 1) s)).2)
  else ((c.put d (layC (c.great + 1) s)).1, c.tell s, 0)
structure PCell.Ok (c : PCell) : Prop where
  at_ : c.at_ ≤ 65536
  spare : c.spare ≤ 1
  len : c.told.length = 64
  size : (c.told.getD 8 0).toNat ≤ 43
  great : c.great < 18446744073709551616
  turn : c.turn ≤ c.great
  err : -1000 ≤ c.err ∧ c.err ≤ 1000
theorem zeros_turn : turnN zeros64 0 = 0 := by
  have : (zeros64.drop 0).take 8 = eight 0 := by rfl
  unfold turnN
  rw [this, num8_eight (by omega)]
theorem zeros_turn56 : turnN zeros64 56 = 0 := by
  have : (zeros64.drop 56).take 8 = eight 0 := by rfl
  unfold turnN
  rw [this, num8_eight (by omega)]
theorem zeros_right : rightC zeros64 = false := by
  unfold rightC
  rw [zeros_turn]
  simp
theorem cellNew_ok {at_ : Nat} (h : at_ ≤ 65536) : (cellNew at_).Ok :=
  ⟨h, by simp [cellNew], by simp [cellNew, zeros64], by simp [cellNew, zeros64], by simp [cellNew], by simp [cellNew, PCell.turn, zeros_turn], by simp [cellNew]⟩
theorem PCell.Ok.take {c : PCell} (h : c.Ok) {half : Nat} {b : List UInt8} (hb : b.length = 64) : (c.take half b).Ok := by
  have h1 := turnN_lt hb (k := 0) (by omega)
  have h2 := turnN_lt hb (k := 56) (by omega)
  have h3 := h.great
  have h4 := h.turn
  unfold PCell.take
  split
  · rename_i hr
    have h8 : (b.getD 8 0).toNat ≤ 43 := by
      have := hr.1
      unfold rightC at this
      simp only [Bool.and_eq_true, decide_eq_true_eq] at this
      exact this.2
    exact ⟨h.at_, by show 1 - half ≤ 1; omega, hb, h8, by show max _ _ < _; omega, by show turnN b 0 ≤ max _ _; omega, h.err⟩
  · exact ⟨h.at_, h.spare, h.len, h.size, by show max _ _ < _; omega, by show c.turn ≤ max _ _; omega, h.err⟩
theorem cellOpen_ok {d : PD} (hd : d.Ok) {at_ : Nat} (h0 : d.at_ (at_ : Int) = 0) (h1 : d.at_ ((at_ : Int) + 1) = 0) (h : at_ ≤ 65536) : (cellOpen d at_).Ok :=
  ((cellNew_ok h).take (hd.read h0)).take (hd.read h1)
theorem PCell.Ok.data {c : PCell} (h : c.Ok) : c.data.length = (c.told.getD 8 0).toNat := by
  unfold PCell.data dataC
  have := h.size
  have := h.len
  simp only [List.length_take, List.length_drop]
  omega
theorem PCell.Ok.fail {c : PCell} (h : c.Ok) {e : Int} (he : -1000 ≤ e ∧ e ≤ 1000) : (c.fail e).Ok := ⟨h.at_, h.spare, h.len, h.size, h.great, h.turn, he⟩
theorem PCell.Ok.tell {c : PCell} (h : c.Ok) {s : List UInt8} (hs : s.length ≤ 43) (hg : c.great + 1 < 18446744073709551616) : (c.tell s).Ok :=
  ⟨h.at_, by show 1 - c.spare ≤ 1; omega, layC_length hs, by show ((layC _ s).getD 8 0).toNat ≤ 43; rw [layC_8 _ hs]; exact hs, hg, by show turnN (layC _ s) 0 ≤ c.great + 1; rw [layC_first hg]; exact Nat.le_refl _, h.err⟩
theorem PCell.tell_turn {c : PCell} (hg : c.great + 1 < 18446744073709551616) (s : List UInt8) : (c.tell s).turn = c.great + 1 := layC_first hg s
theorem PCell.tell_data (c : PCell) {s : List UInt8} (hs : s.length ≤ 43) : (c.tell s).data = s := layC_data _ hs
end Go.Proofs.Ytdllgmhipenidaa
