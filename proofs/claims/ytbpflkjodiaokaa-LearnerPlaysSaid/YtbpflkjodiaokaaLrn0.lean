/- A learner in plain lists: slots and values in the order in which they were learned; what is looked up, next, top, gaps, on end. No program. -/
import Derived.Test.YtbpflkjodiaokaaBaseM
namespace Go.Proofs.Ytbpflkjodiaokaa
set_option maxRecDepth 100000
open Go.RowKit
set_option linter.unusedVariables false
set_option linter.unusedSimpArgs false

abbrev KV := Nat × List UInt8
def lookL (L : List KV) (s : Nat) : Option (List UInt8) := (L.find? (fun p => decide (p.1 = s))).map Prod.snd
theorem lookL_nil (s : Nat) : lookL [] s = none := rfl
theorem lookL_cons (p : KV) (L : List KV) (s : Nat) : lookL (p :: L) s = if p.1 = s then some p.2 else lookL L s := by
  unfold lookL
  rw [List.find?_cons]
  by_cases h : p.1 = s <;> simp [h]
theorem lookL_none {s : Nat} : ∀ {L : List KV}, lookL L s = none ↔ ∀ p ∈ L, p.1 ≠ s
  | [] => by simp [lookL_nil]
  | p :: L => by
    rw [lookL_cons]
    by_cases h : p.1 = s
    · rw [if_pos h]
      constructor
      · intro h2; cases h2
      · intro h2; exact absurd h (h2 p (by simp))
    · rw [if_neg h, lookL_none]
      constructor
      · intro h2 q hq
        rcases List.mem_cons.1 hq with rfl | hq
        · exact h
        · exact h2 q hq
      · intro h2 q hq; exact h2 q (by simp [hq])
theorem lookL_at {s : Nat} {v : List UInt8} : ∀ {L : List KV} {i : Nat}, L[i]? = some (s, v) → (∀ j, j < i → ∀ p, L[j]? = some p → p.1 ≠ s) → lookL L s = some v
  | p :: L, 0, h, hno => by
    simp at h
    subst h
    rw [lookL_cons, if_pos rfl]
  | p :: L, i + 1, h, hno => by
    rw [lookL_cons, if_neg (hno 0 (by omega) p (by simp))]
    exact lookL_at (i := i) (by simpa using h) (fun j hj q hq => hno (j + 1) (by omega) q (by simpa using hq))
theorem lookL_snoc (L : List KV) (t : Nat) (v : List UInt8) (s : Nat) : lookL (L ++ [(t, v)]) s = match lookL L s with | some u => some u | none => if t = s then some v else none := by
  induction L with
  | nil => rw [List.nil_append, lookL_cons, lookL_nil]
  | cons p L ih =>
    rw [List.cons_append, lookL_cons, lookL_cons]
    by_cases h : p.1 = s
    · rw [if_pos h, if_pos h]
    · rw [if_neg h, if_neg h, ih]
def learnE (L : List KV) (s : Nat) (v : List UInt8) : Nat := if s = 18446744073709551615 then 37 else match lookL L s with | none => 0 | some u => if u = v then 31 else 33
def learnL (L : List KV) (s : Nat) (v : List UInt8) : List KV := if s = 18446744073709551615 then L else match lookL L s with | none => L ++ [(s, v)] | some _ => L
def topL : List KV → Nat
  | [] => 0
  | p :: L => max (p.1 + 1) (topL L)
theorem topL_append : ∀ L M : List KV, topL (L ++ M) = max (topL L) (topL M)
  | [], M => by simp [topL]
  | p :: L, M => by simp [topL, topL_append L M, Nat.max_assoc]
theorem topL_snoc (L : List KV) (p : KV) : topL (L ++ [p]) = max (topL L) (p.1 + 1) := by rw [topL_append]; simp [topL]
theorem lt_top : ∀ {L : List KV} {p : KV}, p ∈ L → p.1 < topL L
  | q :: L, p, h => by
    rcases List.mem_cons.1 h with rfl | h
    · simp [topL]; omega
    · have := lt_top h
      simp [topL]; omega
theorem look_top {L : List KV} {s : Nat} {v : List UInt8} (h : lookL L s = some v) : s < topL L := by
  by_cases hs : s < topL L
  · exact hs
  · have : lookL L s = none := lookL_none.2 (fun p hp e => by have := lt_top hp; omega)
    rw [this] at h; cases h
/-- The lowest slot that isn't known. -/
def nextP (L : List KV) (n : Nat) : Prop := (∀ m, m < n → (lookL L m).isSome = true) ∧ lookL L n = none
theorem nextP_one {L : List KV} {n m : Nat} (h : nextP L n) (k : nextP L m) : n = m := by
  rcases Nat.lt_trichotomy n m with hl | hl | hl
  · have := k.1 n hl; rw [h.2] at this; cases this
  · exact hl
  · have := h.1 m hl; rw [k.2] at this; cases this
def gapsTo (L : List KV) (n : Nat) : List Nat := (List.range n).filter (fun s => (lookL L s).isNone)
def gapsL (L : List KV) (most : Nat) : List Nat := (gapsTo L (topL L)).take most
theorem gapsTo_succ (L : List KV) (n : Nat) : gapsTo L (n + 1) = if lookL L n = none then gapsTo L n ++ [n] else gapsTo L n := by
  unfold gapsTo
  rw [List.range_succ, List.filter_append]
  cases h : lookL L n with
  | none => simp [h]
  | some v => simp [h]
theorem gapsTo_pre (L : List KV) (n : Nat) : ∀ k, ∃ r, gapsTo L (n + k) = gapsTo L n ++ r
  | 0 => ⟨[], by simp⟩
  | k + 1 => by
    obtain ⟨r, hr⟩ := gapsTo_pre L n k
    rw [← Nat.add_assoc, gapsTo_succ, hr]
    split
    · exact ⟨r ++ [n + k], by simp⟩
    · exact ⟨r, rfl⟩
theorem gaps_stop {L : List KV} {n most : Nat} (hn : n ≤ topL L) (h : n = topL L ∨ most ≤ (gapsTo L n).length) (hm : (gapsTo L n).length ≤ most) : gapsL L most = gapsTo L n := by
  unfold gapsL
  rcases h with h | h
  · rw [← h, List.take_of_length_le hm]
  · obtain ⟨r, hr⟩ := gapsTo_pre L n (topL L - n)
    rw [show n + (topL L - n) = topL L by omega] at hr
    rw [hr, List.take_append_of_le_length h, List.take_of_length_le (by omega)]
/-- The values on end. -/
def fromL (L : List KV) : Nat → Nat → List (List UInt8)
  | _, 0 => []
  | s, k + 1 => match lookL L s with
    | none => []
    | some v => v :: fromL L (s + 1) k
end Go.Proofs.Ytbpflkjodiaokaa
