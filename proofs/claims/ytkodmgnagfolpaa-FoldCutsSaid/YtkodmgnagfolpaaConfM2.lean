/- Texts laid as one: Conf6, Conf7, Conf8. -/
import Derived.Test.YtkodmgnagfolpaaConfM1
import Derived.Test.YtkodmgnagfolpaaRef10d
import Derived.Test.YtkodmgnagfolpaaNumsM

section
/- Package conf: putRow, putField. -/
namespace Go.Proofs.Ytkodmgnagfolpaa
set_option maxRecDepth 100000
open Go.RowKit
set_option linter.unusedVariables false
theorem Wrote.nil10 {w w1 w2 : World} {g : Nat} {v v' : Value} (h : Wrote w w1 g v v') (hm : Mods Nil w1 w2) : Wrote w w2 g v v' := h.trans ⟨hm.mono (fun _ _ h => h.elim), fun _ h => .inl h⟩
theorem Wrote.start10 {w w1 w2 : World} {g : Nat} {v v' : Value} (hm : Mods Nil w w1) (h : Wrote w1 w2 g v v') : Wrote w w2 g v v' := Wrote.trans (v1 := v) ⟨hm.mono (fun _ _ h => h.elim), fun _ h => .inl h⟩ h
theorem rowN_put (s : Nat) (xs : List Nat) : putAll (rowN ⟨s, xs⟩) = putU s ++ putU xs.length ++ putAll xs := by simp [rowN, putAll]
end Go.Proofs.Ytkodmgnagfolpaa
end

section
/- Package conf: putField. -/
namespace Go.Proofs.Ytkodmgnagfolpaa
set_option maxRecDepth 100000
open Go.RowKit
set_option linter.unusedVariables false
set_option linter.unusedSimpArgs false

theorem amt_lt {c : PC} (hok : c.ok) {n : Nat} (hn : n ≤ 9223372036854775807) (j : Nat) : amt c n j < 18446744073709551616 := by
  have h1 := hok.client
  have h2 := hok.seq
  have h3 := hok.pos
  unfold amt
  split
  · exact h1
  split
  · exact h2
  split
  · omega
  split
  · omega
  split
  · exact h3
  omega
/-- The numbers of a field. -/
def fN (c : PC) (n j : Nat) : List Nat := if j = 5 then n :: rowsN c.rows else [amt c n j]
theorem fN_5 (c : PC) (n : Nat) : fN c n 5 = n :: rowsN c.rows := rfl
theorem fN_ne (c : PC) (n : Nat) {j : Nat} (h : j ≠ 5) : fN c n j = [amt c n j] := by unfold fN; rw [if_neg h]
end Go.Proofs.Ytkodmgnagfolpaa
end

section
/- Package conf: Put. -/
namespace Go.Proofs.Ytkodmgnagfolpaa
set_option maxRecDepth 100000
open Go.RowKit
set_option linter.unusedVariables false
set_option linter.unusedSimpArgs false

/-- The numbers of the first fields. -/
def bodyJ (c : PC) (n : Nat) : Nat → List Nat
  | 0 => []
  | j + 1 => bodyJ c n j ++ (if has c.op j then fN c n j else [])
theorem bodyJ_6 {c : PC} (hok : c.ok) (h : chkC c = 0) : bodyJ c c.rows.length 6 = bodyN c := by
  obtain ⟨hr, ho⟩ := chkC_zero.1 h
  have hg := opB_range ho
  obtain ⟨op, client, seq, shard, segs, pos, rows⟩ := c
  dsimp only at *
  obtain h | h | h | h | h : op = 0 ∨ op = 1 ∨ op = 2 ∨ op = 3 ∨ op = 4 := by omega
  · subst h
    have t : has 0 0 = false ∧ has 0 1 = false ∧ has 0 2 = false ∧ has 0 3 = false ∧ has 0 4 = false ∧ has 0 5 = false := by decide
    simp [bodyJ, bodyN, t]
  · subst h
    simp [opB] at ho
    have t : has 1 0 = true ∧ has 1 1 = true ∧ has 1 2 = true ∧ has 1 3 = true ∧ has 1 4 = false ∧ has 1 5 = false := by decide
    have e1 : (shard % 18446744073709551616).toNat = shard.toNat := by omega
    have e2 : (segs % 18446744073709551616).toNat = segs.toNat := by omega
    simp [bodyJ, bodyN, t, fN, amt, e1, e2]
  · subst h
    simp [opB] at ho
    have t : has 2 0 = true ∧ has 2 1 = true ∧ has 2 2 = true ∧ has 2 3 = false ∧ has 2 4 = false ∧ has 2 5 = true := by decide
    have e1 : (shard % 18446744073709551616).toNat = shard.toNat := by omega
    simp [bodyJ, bodyN, t, fN, amt, e1]
  · subst h
    have t : has 3 0 = true ∧ has 3 1 = true ∧ has 3 2 = false ∧ has 3 3 = false ∧ has 3 4 = true ∧ has 3 5 = false := by decide
    simp [bodyJ, bodyN, t, fN, amt]
  · subst h
    have t : has 4 0 = false ∧ has 4 1 = false ∧ has 4 2 = false ∧ has 4 3 = false ∧ has 4 4 = false ∧ has 4 5 = true := by decide
    simp [bodyJ, bodyN, t, fN, amt]
theorem bodyJ_yes {c : PC} {n j : Nat} (h : has c.op j = true) : putAll (bodyJ c n (j + 1)) = putAll (bodyJ c n j) ++ putAll (fN c n j) := by
  simp [bodyJ, h, putAll_append]
theorem bodyJ_no {c : PC} {n j : Nat} (h : has c.op j = false) : bodyJ c n (j + 1) = bodyJ c n j := by simp [bodyJ, h]
theorem bodyJ_len {c : PC} (hok : c.ok) {n : Nat} (hl : c.rows.length = n) (h8 : n ≤ 8) (hS : ∀ r ∈ c.rows, rowS r) : ∀ j, (putAll (bodyJ c n j)).length ≤ 441 * j
  | 0 => by simp [bodyJ, putAll]
  | j + 1 => by
    have ih := bodyJ_len hok hl h8 hS j
    by_cases h : has c.op j = true
    · rw [bodyJ_yes h, List.length_append]
      have h2 : (putAll (fN c n j)).length ≤ 441 := by
        by_cases h5 : j = 5
        · subst h5
          have := rowsP_len (n := n) (j := c.rows.length) h8 (by omega) hS
          unfold rowsP at this
          rw [List.take_length] at this
          exact this
        · rw [fN_ne c n h5]
          have := putU_length (amt c n j) (amt_lt hok (by omega) j)
          simp [putAll]
          omega
      omega
    · rw [bodyJ_no (by simpa using h)]
      omega

end Go.Proofs.Ytkodmgnagfolpaa
end
