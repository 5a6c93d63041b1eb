/- Texts laid as one: Nums1, Nums2, Nums3, Nums4, Nums5, Nums6. -/
import Derived.Test.YtpabbhhaagfoeaaProg
import Derived.Test.YtpabbhhaagfoeaaBaseM
import Derived.Outline
import Derived.WalkLawsBesides
import Derived.StillTailTactics
import Derived.Deep.QuietTactic
import Derived.BigQuiet
import Derived.Deep.RegionLaw

section
/- Package nums: the reader's small calls. -/
namespace Go.Proofs.Ytpabbhhaagfoeaa
set_option maxRecDepth 100000
open Go.RowKit

/-! numberError. -/
def numErr : List UInt8 → Int
  | [] => 10
  | c :: r => if 8 < c.toNat then 11 else if r.length < c.toNat then 10 else if 0 < c.toNat ∧ r.head? = some 0 then 11 else 0

theorem numErr_nil : numErr [] = 10 := rfl
theorem numErr_big {c : UInt8} {r : List UInt8} (h : 8 < c.toNat) : numErr (c :: r) = 11 := by simp only [numErr]; rw [if_pos h]
theorem numErr_short {c : UInt8} {r : List UInt8} (h : ¬ 8 < c.toNat) (h2 : r.length < c.toNat) : numErr (c :: r) = 10 := by simp only [numErr]; rw [if_neg h, if_pos h2]
theorem numErr_zero {c : UInt8} {r : List UInt8} (h2 : c.toNat = 0) : numErr (c :: r) = 0 := by simp only [numErr]; rw [if_neg (by omega), if_neg (by omega), if_neg (by omega)]
theorem numErr_front {c d : UInt8} {r : List UInt8} (h : ¬ 8 < c.toNat) (h2 : ¬ (d :: r).length < c.toNat) (h3 : 0 < c.toNat) (h4 : d.toNat = 0) : numErr (c :: d :: r) = 11 := by
  simp only [numErr]; rw [if_neg h, if_neg h2, if_pos ⟨h3, by simp; exact UInt8.toNat_inj.1 (by simpa using h4)⟩]
theorem numErr_ok {c d : UInt8} {r : List UInt8} (h : ¬ 8 < c.toNat) (h2 : ¬ (d :: r).length < c.toNat) (h4 : d.toNat ≠ 0) : numErr (c :: d :: r) = 0 := by
  simp only [numErr]; rw [if_neg h, if_neg h2, if_neg (by simp; intro _ e; subst e; simp at h4)]

end Go.Proofs.Ytpabbhhaagfoeaa
end

section
/- Package nums: the reader. -/
namespace Go.Proofs.Ytpabbhhaagfoeaa
set_option maxRecDepth 100000
open Go.RowKit

def readRaw (err : Int) (xs : List UInt8) (n : Int) : Int × List UInt8 × List UInt8 :=
  if err ≠ 0 then (err, xs, []) else if n < 0 then (1, [], []) else if (xs.length : Int) < n then (10, [], []) else (0, xs.drop n.toNat, xs.take n.toNat)

end Go.Proofs.Ytpabbhhaagfoeaa
end

section
/- Package nums: the reader's numbers. -/
namespace Go.Proofs.Ytpabbhhaagfoeaa
set_option maxRecDepth 100000
open Go.RowKit

def valOf (l : List UInt8) : Nat := l.foldl (fun a b => a * 256 + b.toNat) 0
theorem valOf_snoc (l : List UInt8) (b : UInt8) : valOf (l ++ [b]) = valOf l * 256 + b.toNat := by simp [valOf, List.foldl_append]
theorem valOf_lt : ∀ (n : Nat) (l : List UInt8), l.length = n → valOf l < 256 ^ n := by
  intro n
  induction n with
  | zero => intro l h; obtain rfl : l = [] := List.eq_nil_of_length_eq_zero h; decide
  | succ n ih =>
    intro l h
    have e : l = l.take n ++ [l[n]'(by omega)] := by rw [← List.take_succ_eq_append_getElem (by omega), List.take_of_length_le (by omega)]
    rw [e, valOf_snoc]
    have h1 := ih (l.take n) (by simp; omega)
    have h2 := (l[n]'(by omega)).toNat_lt
    rw [Nat.pow_succ]
    omega

theorem or_step (v b : Nat) (hv : v < 72057594037927936) (hb : b < 256) : bits .or .u64 (IntKind.u64.wrap ((v : Int) * 256)) (IntKind.u64.wrap (b : Int)) = ((v * 256 + b : Nat) : Int) := by
  have e1 : IntKind.u64.wrap ((v : Int) * 256) = ((v * 256 : Nat) : Int) := by rw [IntKind.wrap_u64]; omega
  have e2 : IntKind.u64.wrap (b : Int) = (b : Int) := by rw [IntKind.wrap_u64]; omega
  rw [e1, e2, u64_or_nat _ _ (by omega) (by omega), nat_join 8 (v * 256) b (by omega) (by omega)]

def readUint (err : Int) (xs : List UInt8) : Int × List UInt8 × Nat :=
  if err ≠ 0 then (err, xs, 0) else if numErr xs ≠ 0 then (numErr xs, [], 0) else (0, xs.drop (1 + (xs.headD 0).toNat), valOf ((xs.drop 1).take (xs.headD 0).toNat))

theorem numErr_zero_inv {xs : List UInt8} (h : numErr xs = 0) : ∃ c r, xs = c :: r ∧ ¬ 8 < c.toNat ∧ ¬ r.length < c.toNat := by
  cases xs with
  | nil => simp [numErr] at h
  | cons c r =>
    refine ⟨c, r, rfl, ?_, ?_⟩
    · intro h8; rw [numErr_big h8] at h; simp at h
    · intro hs
      by_cases h8 : 8 < c.toNat
      · rw [numErr_big h8] at h; simp at h
      · rw [numErr_short h8 hs] at h; simp at h

def readBytes (err : Int) (xs : List UInt8) (most : Int) : Int × List UInt8 × List UInt8 :=
  if (readUint err xs).1 ≠ 0 then ((readUint err xs).1, (readUint err xs).2.1, [])
  else if most < 0 ∨ most < ((readUint err xs).2.2 : Int) then (13, [], [])
  else readRaw 0 (readUint err xs).2.1 ((readUint err xs).2.2 : Int)
end Go.Proofs.Ytpabbhhaagfoeaa
end

section
/- Package nums: the reader's rows of bytes, and a new reader. -/
namespace Go.Proofs.Ytpabbhhaagfoeaa
set_option maxRecDepth 100000
open Go.RowKit

theorem valOf_lt64 (xs : List UInt8) (err : Int) : (readUint err xs).2.2 < 18446744073709551616 := by
  unfold readUint
  split
  · show (0 : Nat) < 18446744073709551616; omega
  · split
    · show (0 : Nat) < 18446744073709551616; omega
    · rename_i h1 h2
      obtain ⟨c, r, rfl, h8, hs⟩ := numErr_zero_inv (Classical.not_not.1 h2)
      simp only [List.headD_cons, List.drop_succ_cons, List.drop_zero]
      have h3 := valOf_lt (r.take c.toNat).length (r.take c.toNat) rfl
      have h2 : 256 ^ (r.take c.toNat).length ≤ 256 ^ 8 := Nat.pow_le_pow_right (by omega) (by simp; omega)
      have h4 : (256 : Nat) ^ 8 = 18446744073709551616 := rfl
      omega
theorem readUint_le (xs : List UInt8) (err : Int) : (readUint err xs).2.1.length ≤ xs.length := by
  unfold readUint
  split
  · exact Nat.le_refl _
  · split <;> simp

end Go.Proofs.Ytpabbhhaagfoeaa
end

section
/- Package nums: the writer's width. -/
namespace Go.Proofs.Ytpabbhhaagfoeaa
set_option maxRecDepth 100000
open Go.RowKit

def digs (x : Nat) : List UInt8 := if x = 0 then [] else digs (x / 256) ++ [UInt8.ofNat (x % 256)]
termination_by x
decreasing_by omega
theorem digs_zero : digs 0 = [] := by rw [digs, if_pos rfl]
theorem digs_pos {x : Nat} (h : x ≠ 0) : digs x = digs (x / 256) ++ [UInt8.ofNat (x % 256)] := by rw [digs, if_neg h]
theorem digs_len : ∀ (k x : Nat), x < 256 ^ k → (k ≠ 0 → 256 ^ (k - 1) ≤ x) → (digs x).length = k := by
  intro k
  induction k with
  | zero => intro x h _; obtain rfl : x = 0 := by simpa using h
            rw [digs_zero]; rfl
  | succ k ih =>
    intro x h h2
    have h3 := h2 (by omega)
    simp only [Nat.add_sub_cancel] at h3
    have hp : 0 < 256 ^ k := Nat.pow_pos (by omega)
    rw [digs_pos (by omega), List.length_append, ih (x / 256)]
    · rfl
    · rw [Nat.pow_succ] at h; omega
    · intro hk
      obtain ⟨m, rfl⟩ : ∃ m, k = m + 1 := ⟨k - 1, by omega⟩
      rw [Nat.pow_succ] at h3
      simp only [Nat.add_sub_cancel]
      omega
/-- The first j digits. -/
theorem digs_get : ∀ (k x : Nat), x < 256 ^ k → (k ≠ 0 → 256 ^ (k - 1) ≤ x) → ∀ j (hj : j < (digs x).length), (digs x)[j] = UInt8.ofNat (x / 256 ^ (k - 1 - j) % 256) := by
  intro k
  induction k with
  | zero => intro x h _ j hj; obtain rfl : x = 0 := by simpa using h
            rw [digs_zero] at hj; simp at hj
  | succ k ih =>
    intro x h h2 j hj
    have h3 := h2 (by omega)
    have hlen := digs_len (k + 1) x h h2
    simp only [Nat.add_sub_cancel] at h3 ⊢
    have hp : 0 < 256 ^ k := Nat.pow_pos (by omega)
    have hx : x ≠ 0 := by omega
    have e := digs_pos hx
    have g1 : x / 256 < 256 ^ k := by rw [Nat.pow_succ] at h; omega
    have g2 : k ≠ 0 → 256 ^ (k - 1) ≤ x / 256 := by
      intro hk
      obtain ⟨m, rfl⟩ : ∃ m, k = m + 1 := ⟨k - 1, by omega⟩
      rw [Nat.pow_succ] at h3
      simp only [Nat.add_sub_cancel]
      omega
    have hl2 := digs_len k (x / 256) g1 g2
    simp only [e]
    by_cases hjk : j < k
    · rw [List.getElem_append_left (by omega), ih (x / 256) g1 g2 j (by omega)]
      congr 2
      rw [Nat.div_div_eq_div_mul]
      congr 1
      rw [← Nat.pow_succ']
      congr 1
      omega
    · have : j = k := by omega
      subst this
      rw [List.getElem_append_right (by omega)]
      simp [hl2]

end Go.Proofs.Ytpabbhhaagfoeaa
end

section
/- Package nums: the writer. -/
namespace Go.Proofs.Ytpabbhhaagfoeaa
set_option maxRecDepth 100000
open Go.RowKit

/-- What a writer's call may change: its own block, and its row, which may move to a new block. -/
structure Wrote (w w' : World) (g : Nat) (v v' : Value) : Prop where
  mods : Mods (fun k => k = g ∨ v.ownBlock = some k) w w'
  moved : ∀ k, v'.ownBlock = some k → v.ownBlock = some k ∨ w.heap.size ≤ k

theorem Wrote.refl (w : World) (g : Nat) (v : Value) : Wrote w w g v v := ⟨Mods.refl _ _, fun _ h => .inl h⟩
theorem Wrote.trans {w w1 w2 : World} {g : Nat} {v v1 v2 : Value} (h : Wrote w w1 g v v1) (k : Wrote w1 w2 g v1 v2) : Wrote w w2 g v v2 := by
  refine ⟨h.mods.trans2 k.mods (fun i hi hs => ?_), fun q hq => ?_⟩
  · rcases hs with hs | hs
    · exact .inl hs
    · rcases h.moved i hs with h1 | h1
      · exact .inr h1
      · omega
  · rcases k.moved q hq with h1 | h1
    · exact h.moved q h1
    · exact .inr (Nat.le_trans h.mods.size h1)
def putU (x : Nat) : List UInt8 := UInt8.ofNat (digs x).length :: digs x

theorem pow_place : ∀ (k x : Nat), x < 256 ^ k → ∃ j, j ≤ k ∧ x < 256 ^ j ∧ (j ≠ 0 → 256 ^ (j - 1) ≤ x) := by
  intro k
  induction k with
  | zero => intro x h; exact ⟨0, Nat.le_refl _, h, fun h => absurd rfl h⟩
  | succ k ih =>
    intro x h
    by_cases hx : x < 256 ^ k
    · obtain ⟨j, h1, h2, h3⟩ := ih x hx
      exact ⟨j, by omega, h2, h3⟩
    · exact ⟨k + 1, Nat.le_refl _, h, fun _ => by simpa using Nat.le_of_not_lt hx⟩
theorem own_cell {w : World} {g : Nat} {t : TypeId} {v : Value} (h : Blk w g t #[v]) : w.cell? ⟨g, 0, none⟩ = some v := by simpa using h.cell 0
theorem one_oneCell (z : Int) (k : IntKind) : ∀ u ∈ [Value.int k z], u.oneCell' = true := by
  intro u hu
  simp at hu
  subst hu
  rfl

theorem putU_length (x : Nat) (hx : x < 18446744073709551616) : (putU x).length ≤ 9 := by
  obtain ⟨k, h1, h2, h3⟩ := pow_place 8 x (by have : (256 : Nat) ^ 8 = 18446744073709551616 := rfl; omega)
  have := digs_len k x h2 h3
  simp [putU]; omega

def putB (b : List UInt8) : List UInt8 := putU b.length ++ b

end Go.Proofs.Ytpabbhhaagfoeaa
end
