/- Texts laid as one: Conf9, Confa, Confb. -/
import Derived.Test.YtcncgjiaefjmhaaConfM1
import Derived.Test.YtcncgjiaefjmhaaConfM2
import Derived.Test.YtcncgjiaefjmhaaQK

section
/- What is read, number by number, in the order in which a program reads it. No program. -/
namespace Go.Proofs.Ytcncgjiaefjmhaa
set_option maxRecDepth 100000
set_option linter.unusedVariables false
set_option linter.unusedSimpArgs false

/-- A row's lengths. -/
def lensF : Nat → List UInt8 → Int × List UInt8 × List Nat
  | 0, xs => (0, xs, [])
  | n + 1, xs => if (readUint 0 xs).1 ≠ 0 then ((readUint 0 xs).1, [], []) else if (lensF n (readUint 0 xs).2.1).1 ≠ 0 then ((lensF n (readUint 0 xs).2.1).1, [], []) else (0, (lensF n (readUint 0 xs).2.1).2.1, (readUint 0 xs).2.2 :: (lensF n (readUint 0 xs).2.1).2.2)
theorem lensF_snoc : ∀ (n : Nat) (xs : List UInt8), lensF (n + 1) xs = if (lensF n xs).1 ≠ 0 then ((lensF n xs).1, [], []) else if (readUint 0 (lensF n xs).2.1).1 ≠ 0 then ((readUint 0 (lensF n xs).2.1).1, [], []) else (0, (readUint 0 (lensF n xs).2.1).2.1, (lensF n xs).2.2 ++ [(readUint 0 (lensF n xs).2.1).2.2])
  | 0, xs => by by_cases h : (readUint 0 xs).1 = 0 <;> simp [lensF, h]
  | n + 1, xs => by
    have ih := lensF_snoc n (readUint 0 xs).2.1
    rw [lensF]
    by_cases h1 : (readUint 0 xs).1 = 0
    · rw [if_neg (by simp [h1]), ih]
      by_cases h2 : (lensF n (readUint 0 xs).2.1).1 = 0
      · have e : lensF (n + 1) xs = (0, (lensF n (readUint 0 xs).2.1).2.1, (readUint 0 xs).2.2 :: (lensF n (readUint 0 xs).2.1).2.2) := by rw [lensF, if_neg (by simp [h1]), if_neg (by simp [h2])]
        rw [e]
        simp only [ne_eq, not_true_eq_false, if_false, h2]
        by_cases h3 : (readUint 0 (lensF n (readUint 0 xs).2.1).2.1).1 = 0
        · simp [h3]
        · simp [h3]
      · have e : lensF (n + 1) xs = ((lensF n (readUint 0 xs).2.1).1, [], []) := by rw [lensF, if_neg (by simp [h1]), if_pos h2]
        rw [e]
        simp [h2]
    · have e : lensF (n + 1) xs = ((readUint 0 xs).1, [], []) := by rw [lensF, if_pos h1]
      rw [if_pos h1, e]
      simp [h1]
theorem lensF_len : ∀ (n : Nat) (xs : List UInt8), (lensF n xs).1 = 0 → (lensF n xs).2.2.length = n
  | 0, xs, _ => rfl
  | n + 1, xs, h => by
    rw [lensF] at h ⊢
    split at h
    · rename_i h1; exact absurd h h1
    rename_i h1
    split at h
    · rename_i h2; exact absurd h h2
    rename_i h2
    rw [if_neg h1, if_neg h2]
    simp [lensF_len n _ (Classical.not_not.1 h2)]
theorem lensF_lt : ∀ (n : Nat) (xs : List UInt8), ∀ x ∈ (lensF n xs).2.2, x < 18446744073709551616
  | 0, xs, x, h => by simp [lensF] at h
  | n + 1, xs, x, h => by
    rw [lensF] at h
    split at h
    · simp at h
    split at h
    · simp at h
    rcases List.mem_cons.1 h with e | h
    · rw [e]; exact valOf_lt64 _ _
    · exact lensF_lt n _ x h
theorem lensF_rest : ∀ (n : Nat) (xs : List UInt8), (lensF n xs).2.1.length ≤ xs.length
  | 0, xs => Nat.le_refl _
  | n + 1, xs => by
    rw [lensF]
    split
    · simp
    split
    · simp
    exact Nat.le_trans (lensF_rest n _) (readUint_le _ _)
theorem lensT_run : ∀ (n : Nat) (a : List Nat) (f : List Nat → NT) (xs : List UInt8), (lensT n a f).run xs = if (lensF n xs).1 ≠ 0 then ((lensF n xs).1, [], {}) else (f (a ++ (lensF n xs).2.2)).run (lensF n xs).2.1
  | 0, a, f, xs => by simp [lensT, lensF]
  | n + 1, a, f, xs => by
    rw [lensT, NT.run, lensF]
    by_cases h1 : (readUint 0 xs).1 = 0
    · have hb := valOf_lt64 xs 0
      rw [if_neg (by simp [h1]), if_neg (by omega), lensT_run n]
      rw [if_neg (by simp [h1] : ¬ (readUint 0 xs).1 ≠ 0)]
      by_cases h2 : (lensF n (readUint 0 xs).2.1).1 = 0
      · simp [h2]
      · simp [h2]
    · rw [if_pos h1, if_pos h1]
      simp [h1]

/-- A row. -/
def rowR (xs : List UInt8) : Int × List UInt8 × PW :=
  if (readUint 0 xs).1 ≠ 0 then ((readUint 0 xs).1, [], {})
  else if 7 < (readUint 0 xs).2.2 then (11, [], {})
  else if (readUint 0 (readUint 0 xs).2.1).1 ≠ 0 then ((readUint 0 (readUint 0 xs).2.1).1, [], {})
  else if 4 < (readUint 0 (readUint 0 xs).2.1).2.2 then (11, [], {})
  else if (lensF (readUint 0 (readUint 0 xs).2.1).2.2 (readUint 0 (readUint 0 xs).2.1).2.1).1 ≠ 0 then ((lensF (readUint 0 (readUint 0 xs).2.1).2.2 (readUint 0 (readUint 0 xs).2.1).2.1).1, [], {})
  else (0, (lensF (readUint 0 (readUint 0 xs).2.1).2.2 (readUint 0 (readUint 0 xs).2.1).2.1).2.1, ⟨((readUint 0 xs).2.2 : Nat), (lensF (readUint 0 (readUint 0 xs).2.1).2.2 (readUint 0 (readUint 0 xs).2.1).2.1).2.2⟩)
theorem rowR_rest (xs : List UInt8) : (rowR xs).2.1.length ≤ xs.length := by
  unfold rowR
  split
  · simp
  split
  · simp
  split
  · simp
  split
  · simp
  split
  · simp
  exact Nat.le_trans (lensF_rest _ _) (Nat.le_trans (readUint_le _ _) (readUint_le _ _))
theorem rowR_ok {xs : List UInt8} (h : (rowR xs).1 = 0) : (∀ x ∈ (rowR xs).2.2.lens, x < 18446744073709551616) ∧ 0 ≤ (rowR xs).2.2.shard ∧ (rowR xs).2.2.shard ≤ 7 ∧ (rowR xs).2.2.lens.length ≤ 4 := by
  unfold rowR at h ⊢
  split at h
  · rename_i h1; exact absurd h h1
  rename_i h1
  split at h
  · simp at h
  rename_i h2
  split at h
  · rename_i h3; exact absurd h h3
  rename_i h3
  split at h
  · simp at h
  rename_i h4
  split at h
  · rename_i h5; exact absurd h h5
  rename_i h5
  rw [if_neg h1, if_neg h2, if_neg h3, if_neg h4, if_neg h5]
  have hl := lensF_len _ _ (Classical.not_not.1 h5)
  refine ⟨lensF_lt _ _, by simp, by simp; omega, by simp; omega⟩
def rowsF : Nat → List UInt8 → Int × List UInt8 × List PW
  | 0, xs => (0, xs, [])
  | n + 1, xs => if (rowR xs).1 ≠ 0 then ((rowR xs).1, [], []) else if (rowsF n (rowR xs).2.1).1 ≠ 0 then ((rowsF n (rowR xs).2.1).1, [], []) else (0, (rowsF n (rowR xs).2.1).2.1, (rowR xs).2.2 :: (rowsF n (rowR xs).2.1).2.2)
theorem rowsF_snoc : ∀ (n : Nat) (xs : List UInt8), rowsF (n + 1) xs = if (rowsF n xs).1 ≠ 0 then ((rowsF n xs).1, [], []) else if (rowR (rowsF n xs).2.1).1 ≠ 0 then ((rowR (rowsF n xs).2.1).1, [], []) else (0, (rowR (rowsF n xs).2.1).2.1, (rowsF n xs).2.2 ++ [(rowR (rowsF n xs).2.1).2.2])
  | 0, xs => by by_cases h : (rowR xs).1 = 0 <;> simp [rowsF, h]
  | n + 1, xs => by
    have ih := rowsF_snoc n (rowR xs).2.1
    rw [rowsF]
    by_cases h1 : (rowR xs).1 = 0
    · rw [if_neg (by simp [h1]), ih]
      by_cases h2 : (rowsF n (rowR xs).2.1).1 = 0
      · have e : rowsF (n + 1) xs = (0, (rowsF n (rowR xs).2.1).2.1, (rowR xs).2.2 :: (rowsF n (rowR xs).2.1).2.2) := by rw [rowsF, if_neg (by simp [h1]), if_neg (by simp [h2])]
        rw [e]
        simp only [ne_eq, not_true_eq_false, if_false, h2]
        by_cases h3 : (rowR (rowsF n (rowR xs).2.1).2.1).1 = 0
        · simp [h3]
        · simp [h3]
      · have e : rowsF (n + 1) xs = ((rowsF n (rowR xs).2.1).1, [], []) := by rw [rowsF, if_neg (by simp [h1]), if_pos h2]
        rw [e]
        simp [h2]
    · have e : rowsF (n + 1) xs = ((rowR xs).1, [], []) := by rw [rowsF, if_pos h1]
      rw [if_pos h1, e]
      simp [h1]
theorem rowsF_rest : ∀ (n : Nat) (xs : List UInt8), (rowsF n xs).2.1.length ≤ xs.length
  | 0, xs => Nat.le_refl _
  | n + 1, xs => by
    rw [rowsF]
    split
    · simp
    split
    · simp
    exact Nat.le_trans (rowsF_rest n _) (rowR_rest _)
theorem rowsF_len : ∀ (n : Nat) (xs : List UInt8), (rowsF n xs).1 = 0 → (rowsF n xs).2.2.length = n
  | 0, xs, _ => rfl
  | n + 1, xs, h => by
    rw [rowsF] at h ⊢
    split at h
    · rename_i h1; exact absurd h h1
    rename_i h1
    split at h
    · rename_i h2; exact absurd h h2
    rename_i h2
    rw [if_neg h1, if_neg h2]
    simp [rowsF_len n _ (Classical.not_not.1 h2)]
theorem rowsF_err {n : Nat} {xs : List UInt8} (h : (rowsF n xs).1 ≠ 0) : ∀ m, (rowsF (n + m) xs).1 = (rowsF n xs).1
  | 0 => rfl
  | m + 1 => by
    have ih := rowsF_err h m
    rw [← Nat.add_assoc, rowsF_snoc, if_pos (by rw [ih]; exact h)]
    exact ih
theorem rowsT_run : ∀ (n : Nat) (a : List PW) (f : List PW → NT) (xs : List UInt8), (rowsT n a f).run xs = if (rowsF n xs).1 ≠ 0 then ((rowsF n xs).1, [], {}) else (f (a ++ (rowsF n xs).2.2)).run (rowsF n xs).2.1
  | 0, a, f, xs => by simp [rowsT, rowsF]
  | n + 1, a, f, xs => by
    rw [rowsT, NT.run, rowsF]
    by_cases h1 : (readUint 0 xs).1 = 0
    · rw [if_neg (by simp [h1])]
      by_cases h2 : 7 < (readUint 0 xs).2.2
      · have e : rowR xs = (11, [], {}) := by unfold rowR; rw [if_neg (by simp [h1]), if_pos h2]
        rw [if_pos (by omega), e]
        simp
      · rw [if_neg (by omega), NT.run]
        by_cases h3 : (readUint 0 (readUint 0 xs).2.1).1 = 0
        · rw [if_neg (by simp [h3])]
          by_cases h4 : 4 < (readUint 0 (readUint 0 xs).2.1).2.2
          · have e : rowR xs = (11, [], {}) := by unfold rowR; rw [if_neg (by simp [h1]), if_neg h2, if_neg (by simp [h3]), if_pos h4]
            rw [if_pos (by omega), e]
            simp
          · rw [if_neg (by omega), lensT_run]
            by_cases h5 : (lensF (readUint 0 (readUint 0 xs).2.1).2.2 (readUint 0 (readUint 0 xs).2.1).2.1).1 = 0
            · have e : rowR xs = (0, (lensF (readUint 0 (readUint 0 xs).2.1).2.2 (readUint 0 (readUint 0 xs).2.1).2.1).2.1, ⟨((readUint 0 xs).2.2 : Nat), (lensF (readUint 0 (readUint 0 xs).2.1).2.2 (readUint 0 (readUint 0 xs).2.1).2.1).2.2⟩) := by unfold rowR; rw [if_neg (by simp [h1]), if_neg h2, if_neg (by simp [h3]), if_neg h4, if_neg (by simp [h5])]
              rw [if_neg (by simp [h5]), rowsT_run n, e]
              simp only [ne_eq, not_true_eq_false, if_false, List.nil_append]
              by_cases h6 : (rowsF n (lensF (readUint 0 (readUint 0 xs).2.1).2.2 (readUint 0 (readUint 0 xs).2.1).2.1).2.1).1 = 0
              · simp [h6]
              · simp [h6]
            · have e : rowR xs = ((lensF (readUint 0 (readUint 0 xs).2.1).2.2 (readUint 0 (readUint 0 xs).2.1).2.1).1, [], {}) := by unfold rowR; rw [if_neg (by simp [h1]), if_neg h2, if_neg (by simp [h3]), if_neg h4, if_pos h5]
              rw [if_pos h5, e]
              simp [h5]
        · have e : rowR xs = ((readUint 0 (readUint 0 xs).2.1).1, [], {}) := by unfold rowR; rw [if_neg (by simp [h1]), if_neg h2, if_pos h3]
          rw [if_pos h3, e]
          simp [h3]
    · have e : rowR xs = ((readUint 0 xs).1, [], {}) := by unfold rowR; rw [if_pos h1]
      rw [if_pos h1, e]
      simp [h1]

/-! Fields. -/
def setC (c : PC) (j x : Nat) : PC :=
  if j = 0 then { c with client := x } else if j = 1 then { c with seq := x } else if j = 2 then { c with shard := x } else if j = 3 then { c with segs := x } else { c with pos := x }
def fldR (j : Nat) (c : PC) (xs : List UInt8) : Int × List UInt8 × PC :=
  if (readUint 0 xs).1 ≠ 0 then ((readUint 0 xs).1, [], c)
  else if (readUint 0 xs).2.2 < bLo j ∨ bHi j < (readUint 0 xs).2.2 then (11, [], c)
  else if j = 5 then (if (rowsF (readUint 0 xs).2.2 (readUint 0 xs).2.1).1 ≠ 0 then ((rowsF (readUint 0 xs).2.2 (readUint 0 xs).2.1).1, [], c) else (0, (rowsF (readUint 0 xs).2.2 (readUint 0 xs).2.1).2.1, { c with rows := (rowsF (readUint 0 xs).2.2 (readUint 0 xs).2.1).2.2 }))
  else (0, (readUint 0 xs).2.1, setC c j (readUint 0 xs).2.2)
theorem fldR_rest (j : Nat) (c : PC) (xs : List UInt8) : (fldR j c xs).2.1.length ≤ xs.length := by
  unfold fldR
  split
  · simp
  split
  · simp
  split
  · split
    · simp
    · exact Nat.le_trans (rowsF_rest _ _) (readUint_le _ _)
  · exact readUint_le _ _
def chain : List Nat → PC → List UInt8 → Int × List UInt8 × PC
  | [], c, xs => (0, xs, c)
  | j :: fs, c, xs => if (fldR j c xs).1 ≠ 0 then ((fldR j c xs).1, [], {}) else chain fs (fldR j c xs).2.2 (fldR j c xs).2.1
theorem need_step {j : Nat} (hj : j ≠ 5) {f : Nat → NT} {c : PC} {fs : List Nat} (h : ∀ x ys, (f x).run ys = chain fs (setC c j x) ys) (xs : List UInt8) : (NT.need (bLo j) (bHi j + 1) f).run xs = chain (j :: fs) c xs := by
  rw [NT.run, chain]
  by_cases h1 : (readUint 0 xs).1 = 0
  · rw [if_neg (by simp [h1])]
    by_cases h2 : (readUint 0 xs).2.2 < bLo j ∨ bHi j < (readUint 0 xs).2.2
    · have e : fldR j c xs = (11, [], c) := by unfold fldR; rw [if_neg (by simp [h1]), if_pos h2]
      rw [if_pos (by omega), e]
      simp
    · have e : fldR j c xs = (0, (readUint 0 xs).2.1, setC c j (readUint 0 xs).2.2) := by unfold fldR; rw [if_neg (by simp [h1]), if_neg h2, if_neg hj]
      rw [if_neg (by omega), e, h]
      simp
  · have e : fldR j c xs = ((readUint 0 xs).1, [], c) := by unfold fldR; rw [if_pos h1]
    rw [if_pos h1, e]
    simp [h1]
theorem rows_step {f : List PW → NT} {c : PC} {fs : List Nat} (h : ∀ l ys, (f l).run ys = chain fs { c with rows := l } ys) (xs : List UInt8) : (allT f).run xs = chain (5 :: fs) c xs := by
  rw [allT, NT.run, chain]
  have hlo : bLo 5 = 0 := rfl
  have hhi : bHi 5 = 8 := rfl
  by_cases h1 : (readUint 0 xs).1 = 0
  · rw [if_neg (by simp [h1])]
    by_cases h2 : (readUint 0 xs).2.2 < bLo 5 ∨ bHi 5 < (readUint 0 xs).2.2
    · have e : fldR 5 c xs = (11, [], c) := by unfold fldR; rw [if_neg (by simp [h1]), if_pos h2]
      rw [if_pos (by omega), e]
      simp
    · rw [if_neg (by omega), rowsT_run]
      by_cases h3 : (rowsF (readUint 0 xs).2.2 (readUint 0 xs).2.1).1 = 0
      · have e : fldR 5 c xs = (0, (rowsF (readUint 0 xs).2.2 (readUint 0 xs).2.1).2.1, { c with rows := (rowsF (readUint 0 xs).2.2 (readUint 0 xs).2.1).2.2 }) := by unfold fldR; rw [if_neg (by simp [h1]), if_neg h2, if_pos rfl, if_neg (by simp [h3])]
        rw [if_neg (by simp [h3]), e, h]
        simp
      · have e : fldR 5 c xs = ((rowsF (readUint 0 xs).2.2 (readUint 0 xs).2.1).1, [], c) := by unfold fldR; rw [if_neg (by simp [h1]), if_neg h2, if_pos rfl, if_pos h3]
        rw [if_pos h3, e]
        simp [h3]
  · have e : fldR 5 c xs = ((readUint 0 xs).1, [], c) := by unfold fldR; rw [if_pos h1]
    rw [if_pos h1, e]
    simp [h1]
/-- An op's fields from one on. -/
def ownFrom (op : Int) (j : Nat) : List Nat := (List.range' j (6 - j)).filter (has op)
theorem ownFrom_yes {op : Int} {j : Nat} (hj : j < 6) (h : has op j = true) : ownFrom op j = j :: ownFrom op (j + 1) := by
  unfold ownFrom
  obtain ⟨k, hk⟩ : ∃ k, 6 - j = k + 1 := ⟨5 - j, by omega⟩
  rw [hk, List.range'_succ, List.filter_cons, if_pos h, show 6 - (j + 1) = k by omega]
theorem ownFrom_no {op : Int} {j : Nat} (hj : j < 6) (h : has op j = false) : ownFrom op j = ownFrom op (j + 1) := by
  unfold ownFrom
  obtain ⟨k, hk⟩ : ∃ k, 6 - j = k + 1 := ⟨5 - j, by omega⟩
  rw [hk, List.range'_succ, List.filter_cons, if_neg (by simp [h]), show 6 - (j + 1) = k by omega]
theorem ownFrom_6 (op : Int) : ownFrom op 6 = [] := rfl
theorem tree_chain {op : Nat} (hop : op ≤ 4) (xs : List UInt8) : (tree op).run xs = chain (ownFrom op 0) { op := op } xs := by
  obtain e | e | e | e | e : op = 0 ∨ op = 1 ∨ op = 2 ∨ op = 3 ∨ op = 4 := by omega
  · subst e
    rw [show ownFrom ((0 : Nat) : Int) 0 = [] by decide]
    rfl
  · subst e
    rw [show ownFrom ((1 : Nat) : Int) 0 = [0, 1, 2, 3] by decide]
    exact need_step (j := 0) (by omega) (fun a ys => need_step (j := 1) (by omega) (fun b zs => need_step (j := 2) (by omega) (fun s us => need_step (j := 3) (by omega) (fun k vs => rfl) us) zs) ys) xs
  · subst e
    rw [show ownFrom ((2 : Nat) : Int) 0 = [0, 1, 2, 5] by decide]
    exact need_step (j := 0) (by omega) (fun a ys => need_step (j := 1) (by omega) (fun b zs => need_step (j := 2) (by omega) (fun s us => rows_step (fun l vs => rfl) us) zs) ys) xs
  · subst e
    rw [show ownFrom ((3 : Nat) : Int) 0 = [0, 1, 4] by decide]
    exact need_step (j := 0) (by omega) (fun a ys => need_step (j := 1) (by omega) (fun b zs => need_step (j := 4) (by omega) (fun s us => rfl) zs) ys) xs
  · subst e
    rw [show ownFrom ((4 : Nat) : Int) 0 = [5] by decide]
    exact rows_step (fun l vs => rfl) xs
end Go.Proofs.Ytcncgjiaefjmhaa
end

section
/- Package conf: getNumber; setNumber. -/
namespace Go.Proofs.Ytcncgjiaefjmhaa
set_option maxRecDepth 100000
open Go.RowKit
set_option linter.unusedVariables false
set_option linter.unusedSimpArgs false

/-- A number between two bounds, both of which may be. -/
def numE (xs : List UInt8) (lo hi : Nat) : Int := if (readUint 0 xs).1 ≠ 0 then (readUint 0 xs).1 else if (readUint 0 xs).2.2 < lo ∨ hi < (readUint 0 xs).2.2 then 11 else 0
def numX (xs : List UInt8) (lo hi : Nat) : Nat := if numE xs lo hi = 0 then (readUint 0 xs).2.2 else 0
theorem numE_zero {xs : List UInt8} {lo hi : Nat} : numE xs lo hi = 0 ↔ (readUint 0 xs).1 = 0 ∧ lo ≤ (readUint 0 xs).2.2 ∧ (readUint 0 xs).2.2 ≤ hi := by
  unfold numE
  split
  · rename_i h; constructor
    · intro h2; exact absurd h2 h
    · intro h2; exact absurd h2.1 h
  · split
    · simp; omega
    · simp; rename_i h1 h2; exact ⟨Classical.not_not.1 h1, by omega⟩
set_option maxHeartbeats 1600000 in
theorem getNum_any {w : World} {g : Nat} {k : Option Nat} {xs : List UInt8} (lo hi : Nat) (hlim : xs.length ≤ 140737488355328) (h : IsReader w g k 0 xs) :
    Calls Try.prog 52 #[.pointer (some ⟨g, 0, none⟩), .int .u64 (lo : Int), .int .u64 (hi : Int)] w fun e w' => e = .returned (.tuple #[.int .u64 (numX xs lo hi : Nat), .int .i64 (numE xs lo hi)]) ∧ Mods (· = g) w w' ∧ (numE xs lo hi = 0 → IsReader w' g k 0 (readUint 0 xs).2.1) := by
  have HU := Lib.hid (uint_any hlim h)
  have HX : Hid (numX xs lo hi = if numE xs lo hi = 0 then (readUint 0 xs).2.2 else 0) := Lib.hid rfl
  have HE : Hid (numE xs lo hi = if (readUint 0 xs).1 ≠ 0 then (readUint 0 xs).1 else if (readUint 0 xs).2.2 < lo ∨ hi < (readUint 0 xs).2.2 then 11 else 0) := Lib.hid rfl
  generalize numE xs lo hi = E at HX HE ⊢
  generalize numX xs lo hi = X at HX ⊢
  generalize readUint 0 xs = R at HU HX HE ⊢
  obtain ⟨e1, ys, q⟩ := R
  dsimp only at HU HX HE ⊢
  clear h
  by_cases h1 : e1 = 0
  · subst h1
    by_cases h2 : q < lo
    · obtain rfl : E = 11 := by rw [HE.out]; simp [h2]
      obtain rfl : X = 0 := by rw [HX.out]; simp
      have h2I : (q : Int) < (lo : Int) := by omega
      clear HX HE
      go_enter Try.func52, Try.ntmps52
      go_wp2_with (first
        | (go_at_call 57; refine (HU.out).mono ?_; rintro e w2 ⟨rfl, r2, m2⟩; have R2 := Lib.hid r2; have M2 := Lib.hid m2; clear r2 m2)
        | (go_at_call 22; refine (err_any R2.out).mono ?_; rintro e w3 ⟨rfl, rfl⟩))
      go_ret2
      exact ⟨rfl, M2.out, fun h => absurd h (by simp)⟩
    · have h2I : (lo : Int) ≤ (q : Int) := by omega
      by_cases h3 : hi < q
      · obtain rfl : E = 11 := by rw [HE.out]; simp [h3]
        obtain rfl : X = 0 := by rw [HX.out]; simp
        have h3I : (hi : Int) < (q : Int) := by omega
        clear HX HE
        go_enter Try.func52, Try.ntmps52
        go_wp2_with (first
          | (go_at_call 57; refine (HU.out).mono ?_; rintro e w2 ⟨rfl, r2, m2⟩; have R2 := Lib.hid r2; have M2 := Lib.hid m2; clear r2 m2)
          | (go_at_call 22; refine (err_any R2.out).mono ?_; rintro e w3 ⟨rfl, rfl⟩))
        go_ret2
        exact ⟨rfl, M2.out, fun h => absurd h (by simp)⟩
      · have h3I : (q : Int) ≤ (hi : Int) := by omega
        obtain rfl : E = 0 := by rw [HE.out]; simp; omega
        obtain rfl : X = q := by rw [HX.out]; simp
        clear HX HE
        go_enter Try.func52, Try.ntmps52
        go_wp2_with (first
          | (go_at_call 57; refine (HU.out).mono ?_; rintro e w2 ⟨rfl, r2, m2⟩; have R2 := Lib.hid r2; have M2 := Lib.hid m2; clear r2 m2)
          | (go_at_call 22; refine (err_any R2.out).mono ?_; rintro e w3 ⟨rfl, rfl⟩))
        go_ret2
        exact ⟨rfl, M2.out, fun h => R2.out⟩
  · have hne : (e1 != 0) = true := by simp [h1]
    obtain rfl : E = e1 := by rw [HE.out]; simp [h1]
    obtain rfl : X = 0 := by rw [HX.out]; simp [h1]
    clear HX HE
    have H1 := Lib.hid h1
    clear h1
    go_enter Try.func52, Try.ntmps52
    go_wp2_with (first
      | (go_at_call 57; refine (HU.out).mono ?_; rintro e w2 ⟨rfl, r2, m2⟩; have R2 := Lib.hid r2; have M2 := Lib.hid m2; clear r2 m2)
      | (go_at_call 22; refine (err_any R2.out).mono ?_; rintro e w3 ⟨rfl, rfl⟩))
    go_ret2
    exact ⟨rfl, M2.out, fun h => absurd h H1.out⟩

set_option maxHeartbeats 1600000 in
theorem setNum_any {w : World} {G : Nat} {c : PC} {A : Option Addr} {n k x : Nat} (hB : Blk w G 27 (CV c A n k)) : ∀ j, j < 5 → x ≤ bHi j →
    Calls Try.prog 54 #[.pointer (some ⟨G, 0, none⟩), .int .u8 (fI j), .int .u64 (x : Int)] w fun e w' => e = .returned (.tuple #[]) ∧ Blk w' G 27 (CV (setC c j x) A n k) ∧ Mods (· = G) w w' := by
  obtain ⟨c0, c1, c2, c3, c4, c5, c6⟩ := cv_seven hB
  have f1 := hB.frozen 1; have f2 := hB.frozen 2; have f3 := hB.frozen 3; have f4 := hB.frozen 4; have f5 := hB.frozen 5
  have HB := Lib.hid hB
  clear hB
  have HM := Lib.hid (fun i v => Mods.setCell (S := (· = G)) (Mods.refl _ w) (p := ⟨G, i, none⟩) (fun _ => rfl) v)
  intro j hj hle
  match j, hj with
  | 0, _ =>
    clear hle
    dsimp only [fI]
    go_enter Try.func54, Try.ntmps54
    go_wp2
    exact bodyPost_end (results_none rfl _ _ _) rfl ⟨rfl, HB.out.set_ 1 _, HM.out 1 _⟩
  | 1, _ =>
    clear hle
    dsimp only [fI]
    go_enter Try.func54, Try.ntmps54
    go_wp2
    exact bodyPost_end (results_none rfl _ _ _) rfl ⟨rfl, HB.out.set_ 2 _, HM.out 2 _⟩
  | 2, _ =>
    have h7 : (x : Int) ≤ 7 := by have h : x ≤ 7 := hle; omega
    have hw : IntKind.i64.wrap (x : Int) = (x : Int) := IntWalk.i64_in _ (by omega)
    clear hle
    dsimp only [fI]
    go_enter Try.func54, Try.ntmps54
    go_wp2
    exact bodyPost_end (results_none rfl _ _ _) rfl ⟨rfl, HB.out.set_ 3 _, HM.out 3 _⟩
  | 3, _ =>
    have h7 : (x : Int) ≤ 4 := by have h : x ≤ 4 := hle; omega
    have hw : IntKind.i64.wrap (x : Int) = (x : Int) := IntWalk.i64_in _ (by omega)
    clear hle
    dsimp only [fI]
    go_enter Try.func54, Try.ntmps54
    go_wp2
    exact bodyPost_end (results_none rfl _ _ _) rfl ⟨rfl, HB.out.set_ 4 _, HM.out 4 _⟩
  | 4, _ =>
    clear hle
    dsimp only [fI]
    go_enter Try.func54, Try.ntmps54
    go_wp2
    exact bodyPost_end (results_none rfl _ _ _) rfl ⟨rfl, HB.out.set_ 5 _, HM.out 5 _⟩
end Go.Proofs.Ytcncgjiaefjmhaa
end

section
/- Package conf: getRow. -/
namespace Go.Proofs.Ytcncgjiaefjmhaa
set_option maxRecDepth 100000
open Go.RowKit
set_option linter.unusedVariables false
set_option linter.unusedSimpArgs false

theorem nums_snoc10 (l : List Nat) (x : Nat) : nums (l ++ [x]) = nums l ++ [.int .u64 (x : Int)] := by simp [nums]
theorem rowR_bad1 {xs : List UInt8} (h : numE xs 0 7 ≠ 0) : (rowR xs).1 = numE xs 0 7 := by
  unfold numE at h ⊢
  unfold rowR
  split
  · rfl
  · rename_i h1
    rw [if_neg h1] at h
    by_cases h2 : 7 < (readUint 0 xs).2.2
    · rw [if_pos h2, if_pos (.inr h2)]
    · rw [if_neg (by omega)] at h; exact absurd rfl h
theorem rowR_bad2 {xs ys : List UInt8} (h1 : numE xs 0 7 = 0) (hy : (readUint 0 xs).2.1 = ys) (h : numE ys 0 4 ≠ 0) : (rowR xs).1 = numE ys 0 4 := by
  obtain ⟨r1, -, r2⟩ := numE_zero.1 h1
  unfold rowR
  rw [if_neg (by simp [r1]), if_neg (by omega), hy]
  unfold numE at h ⊢
  split
  · rfl
  · rename_i h1
    rw [if_neg h1] at h
    by_cases h2 : 4 < (readUint 0 ys).2.2
    · rw [if_pos h2, if_pos (.inr h2)]
    · rw [if_neg (by omega)] at h; exact absurd rfl h
/-- What a row's reading leaves. -/
def RowTold (w : World) (g : Nat) (k : Option Nat) (r : Int × List UInt8 × PW) (e : Ending) (w' : World) : Prop :=
  ∃ s A n c, e = .returned (.tuple #[.agg #[.int .i64 s, .slice A n c], .int .i64 r.1]) ∧ Mods (· = g) w w' ∧ (r.1 = 0 → IsReader w' g k 0 r.2.1 ∧ r.2.2.shard = s ∧ r.2.2.lens.length = n ∧ w'.ownsRow w.heap.size 24 1 (.slice A n c) n (nums r.2.2.lens))
set_option maxHeartbeats 4000000 in
theorem getRow_any {w : World} {g : Nat} {k : Option Nat} {xs : List UInt8} (hlim : xs.length ≤ 140737488355328) (hk : ∀ q, k = some q → q < w.heap.size) (h : IsReader w g k 0 xs) :
    Calls Try.prog 58 #[.pointer (some ⟨g, 0, none⟩)] w (RowTold w g k (rowR xs)) := by
  have hgl := h.lt
  have AB := Lib.hid (Blk.new w 50 #[.int .i64 0, .slice none 0 0])
  have m1 := (Mods.refl (· = g) w).alloc (.cells #[.int .i64 0, .slice none 0 0] 50)
  have MM := Lib.hid m1
  have hne : w.heap.size ≠ g := by omega
  have H1 := Lib.hid (h.alloc' (.cells #[.int .i64 0, .slice none 0 0] 50))
  have HN1 := Lib.hid (getNum_any 0 7 hlim H1.out)
  have HK := Lib.hid hk
  clear h hk m1
  by_cases hE1 : numE xs 0 7 = 0
  · obtain ⟨r1, -, r2⟩ := numE_zero.1 hE1
    have hX1 : numX xs 0 7 = (readUint 0 xs).2.2 := by unfold numX; rw [if_pos hE1]
    rw [hE1, hX1] at HN1
    have hR := readUint_le xs 0
    obtain ⟨q, hq⟩ : ∃ q, (readUint 0 xs).2.2 = q := ⟨_, rfl⟩
    obtain ⟨ys, hys⟩ : ∃ ys, (readUint 0 xs).2.1 = ys := ⟨_, rfl⟩
    rw [hq] at HN1 r2
    rw [hys] at HN1 hR
    have HN2 := Lib.hid (fun W (hW : IsReader W g k 0 ys) => getNum_any 0 4 (by omega) hW)
    by_cases hE2 : numE ys 0 4 = 0
    · obtain ⟨s1, -, s2⟩ := numE_zero.1 hE2
      have hX2 : numX ys 0 4 = (readUint 0 ys).2.2 := by unfold numX; rw [if_pos hE2]
      rw [hE2, hX2] at HN2
      have hR2 := readUint_le ys 0
      obtain ⟨n, hn⟩ : ∃ n, (readUint 0 ys).2.2 = n := ⟨_, rfl⟩
      obtain ⟨zs, hzs⟩ : ∃ zs, (readUint 0 ys).2.1 = zs := ⟨_, rfl⟩
      rw [hn] at HN2 s2
      rw [hzs] at HN2 hR2
      have HROW : Hid (rowR xs = if (lensF n zs).1 ≠ 0 then ((lensF n zs).1, [], {}) else (0, (lensF n zs).2.1, ⟨(q : Int), (lensF n zs).2.2⟩)) := Lib.hid (by
        unfold rowR
        rw [if_neg (by simp [r1]), hq, if_neg (by omega), hys, if_neg (by simp [s1]), hn, if_neg (by omega), hzs])
      generalize rowR xs = RR at HROW ⊢
      have hw : IntKind.i64.wrap (q : Int) = (q : Int) := IntWalk.i64_in _ (by omega)
      have HQ7 := Lib.hid r2
      have HN4 := Lib.hid s2
      have HLZ := Lib.hid (show zs.length ≤ 140737488355328 by omega)
      have HNE := Lib.hid hne
      have HGL := Lib.hid hgl
      clear hE1 r1 r2 hX1 hR hq hys hE2 s1 s2 hX2 hR2 hn hzs hne hgl hlim
      go_enter Try.func58, Try.ntmps58
      go_wp2_with (go_at_call 52; first
        | (refine (HN1.out).mono ?_; rintro e w2 ⟨rfl, m2, r2⟩; have R2 := Lib.hid (r2 (by first | rfl | trivial)); have M2 := Lib.hid (MM.out.trans m2); have AB2 := Lib.hid (AB.out.mods m2 (fun h => HNE.out h)); clear m2 r2 HN1)
        | (refine (HN2.out _ R2.out).mono ?_; rintro e w3 ⟨rfl, m3, r3⟩; have R3 := Lib.hid (r3 (by first | rfl | trivial)); have M3 := Lib.hid (M2.out.trans m3); have AB3 := Lib.hid (AB2.out.mods m3 (fun h => HNE.out h)); clear m3 r3))
      have B7 := Lib.hid (Blk.new w3 50 #[.int .i64 (q : Int), .slice none 0 0])
      have AB4 := Lib.hid (AB3.out.alloc (.cells #[.int .i64 (q : Int), .slice none 0 0] 50))
      have R4 := Lib.hid (R3.out.alloc' (.cells #[.int .i64 (q : Int), .slice none 0 0] 50))
      have M4 := Lib.hid (M3.out.alloc (.cells #[.int .i64 (q : Int), .slice none 0 0] 50))
      have h3s : w.heap.size < w3.heap.size := AB3.out.lt
      have H3S := Lib.hid h3s
      obtain ⟨G7, hG7⟩ : ∃ G, w3.heap.size = G := ⟨_, rfl⟩
      rw [hG7] at B7 H3S ⊢
      clear h3s hG7
      obtain ⟨i0, hi, hz0, hz1, hz2⟩ := info_parts infoV64
      go_loopw [30] (fun x wr => ∃ (i : Nat) (v : Value) (e1 : Int) (us : List UInt8) (l : List Nat), i ≤ n ∧ x = .int .u64 (i : Int) ∧ Blk wr G7 50 #[.int .i64 (q : Int), v] ∧ wr.ownsRow w.heap.size 24 1 v i (nums l) ∧ IsReader wr g k e1 us ∧ e1 = (lensF i zs).1 ∧ (e1 = 0 → us = (lensF i zs).2.1 ∧ l = (lensF i zs).2.2) ∧ us.length ≤ 140737488355328 ∧ Blk wr w.heap.size 50 #[.int .i64 0, .slice none 0 0] ∧ Mods (· = g) w wr) (fun x _ => n - (intOf x).toNat)
      case atStart => exact ⟨0, .slice none 0 0, 0, zs, [], Nat.zero_le _, rfl, B7.out, World.ownsRow_nil _ _ _ _, R4.out, rfl, fun _ => ⟨rfl, rfl⟩, HLZ.out, AB4.out, M4.out⟩
      case round =>
        obtain ⟨i, v, e1, us, l, hi', rfl, b7, o5, r5, he1, hz, hul, ab5, m5⟩ := hrel
        have B5 := Lib.hid b7
        have O5 := Lib.hid o5
        have R5 := Lib.hid r5
        have AB5 := Lib.hid ab5
        have M5 := Lib.hid m5
        have HZ := Lib.hid hz
        have HE1 := Lib.hid he1
        have HUL := Lib.hid hul
        have hG7g : G7 ≠ g := by have := HGL.out; have := H3S.out; omega
        have HG7g := Lib.hid hG7g
        have HI0 := Lib.hid hi
        obtain ⟨A5, c5, rfl, -, -, -⟩ := own_slice o5
        by_cases hlt : i < n
        · have hltI : (i : Int) < (n : Int) := by omega
          have HST : Hid ((readUint e1 us).1 = (lensF (i + 1) zs).1 ∧ ((readUint e1 us).1 = 0 → (readUint e1 us).2.1 = (lensF (i + 1) zs).2.1 ∧ l ++ [(readUint e1 us).2.2] = (lensF (i + 1) zs).2.2)) := Lib.hid (by
            rw [lensF_snoc]
            by_cases h0 : e1 = 0
            · obtain ⟨h1, h2⟩ := hz h0
              rw [if_neg (by rw [← he1]; simp [h0]), ← h1, ← h2]
              subst h0
              by_cases h3 : (readUint 0 us).1 = 0
              · rw [if_neg (by simp [h3])]
                exact ⟨h3, fun _ => ⟨rfl, rfl⟩⟩
              · rw [if_pos h3]
                exact ⟨rfl, fun h => absurd h h3⟩
            · have hr : readUint e1 us = (e1, us, 0) := by unfold readUint; rw [if_pos h0]
              rw [if_pos (by rw [← he1]; exact h0), hr]
              exact ⟨he1, fun h => absurd h h0⟩)
          have HU5 := Lib.hid (fun W (hW : IsReader W g k e1 us) => uint_any HUL.out hW)
          have HUL2 := Lib.hid (readUint_le us e1)
          generalize readUint e1 us = R at HST HU5 HUL2
          obtain ⟨e2, us2, x⟩ := R
          dsimp only at HST HU5 HUL2
          have c1 := b7.two.2.1
          have HC1 := Lib.hid c1
          clear b7 o5 r5 he1 hz hul ab5 m5 hG7g hi
          go_wp2_with fail
          refine qt_region 8 (by kernel_rfl) rfl ?_
          refine qt_take 0 7 rfl (by kernel_rfl) (by kernel_rfl) (by kernel_rfl) (fun _ _ _ h => h) (by rfl) (v := ?_) ?_ ?_
          rotate_left
          · intro V
            go_simp
            try with_reducible rfl
          simp only [List.getElem_toArray, List.getElem_cons_succ, List.getElem_cons_zero, Act.put, List.setIfInBounds_toArray, List.set_cons_zero, List.set_cons_succ]
          refine wpAny_of_K (S := fun V => V.cell? ⟨G7, 1, none⟩ = some (.slice A5 i c5)) (k := 5) _ _ _ _ ?_
          have hS0 : wr.drew.cell? ⟨G7, 1, none⟩ = some (.slice A5 i c5) := c1
          clear c1
          refine qk_take 1 6 rfl (by kernel_rfl) (by kernel_rfl) (by kernel_rfl) (by kernel_rfl) (by kernel_rfl) (fun _ _ _ h => h) (by rfl) (v := ?_) ?_ hS0 ?_
          rotate_left
          · intro V hV
            go_simp
            try with_reducible rfl
          simp only [List.getElem_toArray, List.getElem_cons_succ, List.getElem_cons_zero, Act.put, List.setIfInBounds_toArray, List.set_cons_zero, List.set_cons_succ]
          refine qk_value 2 5 rfl (by kernel_rfl) (by rfl) (v := ?_) ?_ hS0 ?_
          rotate_left
          · go_simp
            try with_reducible rfl
          simp only [List.getElem_toArray, List.getElem_cons_succ, List.getElem_cons_zero, Act.put, List.setIfInBounds_toArray, List.set_cons_zero, List.set_cons_succ]
          refine qk_call 3 4 rfl (by kernel_rfl) (by rfl) _ _ ?_ ((HU5.out _ (R5.out.mods (Mods.refl Nil wr).drew (fun h => h) (fun _ _ h => h))).mono ?_)
          · go_simp
          rintro e w7 ⟨rfl, r7, m7⟩
          have B7' := (B5.out.mods (S := Nil) (Mods.refl Nil wr).drew (fun h => h)).mods m7 HG7g.out
          have hS7 := B7'.two.2.1
          refine ⟨_, rfl, hS7, ?_⟩
          simp only [List.getElem_toArray, List.getElem_cons_succ, List.getElem_cons_zero, Act.put, List.setIfInBounds_toArray, List.set_cons_zero, List.set_cons_succ]
          refine qk_makes 4 3 rfl (by kernel_rfl) (by rfl) (v := .slice (some ⟨w7.heap.size, 0, none⟩) 1 1) (w' := w7.alloc (.cells #[.int .u64 (x : Int)] 24)) ?_ ?_ ?_
          · go_simp
          · exact (B7'.alloc _).two.2.1
          simp only [List.getElem_toArray, List.getElem_cons_succ, List.getElem_cons_zero, Act.put, List.setIfInBounds_toArray, List.set_cons_zero, List.set_cons_succ]
          refine qk_rest 2 (by decide) (by kernel_rfl) ?_
          refine qt_list 5 3 rfl (by kernel_rfl) ?_
          simp only [List.drop_succ_cons, List.drop_zero]
          have O7 := Lib.hid (own_mods (own_mods O5.out (Mods.refl Nil wr).drew (fun _ _ h => h)) m7 (fun q hq h => by have := (O5.out.lt q hq).1; have := HGL.out; omega))
          have M7 := Lib.hid ((M5.out.trans ((Mods.refl (· = g) wr).drew)).trans m7)
          have AB7 := Lib.hid (((AB5.out.mods (S := Nil) (Mods.refl Nil wr).drew (fun h => h)).mods m7 HNE.out).alloc (.cells #[.int .u64 (x : Int)] 24))
          have R7 := Lib.hid (r7.alloc' (.cells #[.int .u64 (x : Int)] 24))
          have B8 := Lib.hid (B7'.alloc (.cells #[.int .u64 (x : Int)] 24))
          clear B7' hS7 hS0 m7 r7
          have hn4 := HN4.out
          go_wp2_with (at_builtin; refine wpList_append_sl _ rfl _ _ 48 rfl w.heap.size 24 i0 (.int .u64 0) 8 Try.underlying48 HI0.out hz0 hz1 hz2 rfl (.slice A5 i c5) i (nums l) rfl (O7.out.alloc _) (some ⟨w7.heap.size, 0, none⟩) 1 1 [.int .u64 (x : Int)] rfl rfl (one_sl _ _ _) (one_oneCell _ _) (by omega) (by unfold maxLen; omega) (Nat.le_trans M7.out.size (by simp)) ?_; intro v3 w9 hown hgrow hblk; rw [← nums_snoc10] at hown; obtain ⟨A9, c9, rfl, -, -, -⟩ := own_slice hown; have mg : Mods (fun q => (Value.slice A5 i c5).ownBlock = some q) (w7.alloc (.cells #[.int .u64 (x : Int)] 24)) w9 := (Mods.refl _ _).grown hgrow (fun q hq _ => hq); have MG := Lib.hid mg; have O9 := Lib.hid hown; have B9 := B8.out.mods mg (fun h => own_blk_ne (O7.out.alloc _) B8.out (by decide) h); have f9 := B9.frozen 1; have f8 := B9.two.2.1; have HB9 := Lib.hid B9; clear hown hgrow hblk mg B9)
          have R9 := R7.out.mods MG.out (fun h => by have := (O7.out.lt _ h).1; have := HGL.out; omega) (fun q hq h => by have := (O7.out.lt _ h).1; have := HK.out q hq; omega)
          have AB9 := AB7.out.mods MG.out (fun h => own_blk_ne (O7.out.alloc _) AB7.out (by decide) h)
          have M9 := (M7.out.alloc (.cells #[.int .u64 (x : Int)] 24)).trans2 MG.out (fun i hi h => by have := (O7.out.lt _ h).1; omega)
          have ms : Mods (· = G7) w9 (w9.setCell ⟨G7, 1, none⟩ (.slice A9 (i + 1) c9)) := Mods.setCell (S := (· = G7)) (Mods.refl _ _) (fun _ => rfl) _
          have h3s := H3S.out
          have hgl := HGL.out
          have BF := HB9.out.set_ 1 (.slice A9 (i + 1) c9)
          refine ⟨?_, by simp [intOf]; omega⟩
          exact ⟨i + 1, .slice A9 (i + 1) c9, e2, us2, l ++ [x], by omega, by go_num, by simpa using BF, own_mods O9.out ms (fun q hq h => own_blk_ne O9.out HB9.out (by decide) (h ▸ hq)), R9.mods ms (fun h => HG7g.out h.symm) (fun q hq h => by have := HK.out q hq; omega), HST.out.1, HST.out.2, by have := HUL.out; have := HUL2.out; omega, AB9.mods ms (fun h => by omega), M9.setNew (by simp; omega) _⟩
        · obtain rfl : n = i := by omega
          have HRR : Hid (RR.1 = e1 ∧ (e1 = 0 → RR.2.1 = us ∧ RR.2.2 = ⟨(q : Int), l⟩)) := Lib.hid (by
            rw [HROW.out]
            by_cases h0 : e1 = 0
            · obtain ⟨h1, h2⟩ := hz h0
              rw [if_neg (by rw [← he1]; simp [h0]), ← h1, ← h2]
              exact ⟨h0.symm, fun _ => ⟨rfl, rfl⟩⟩
            · rw [if_pos (by rw [← he1]; exact h0)]
              exact ⟨he1.symm, fun h => absurd h h0⟩)
          have HLN : Hid (l.length = n) := Lib.hid (by have := o5.1; simpa [nums] using this)
          obtain ⟨k0, k1, -, -⟩ := b7.two
          obtain ⟨-, -, y2, y3⟩ := ab5.two
          have K0 : ∀ V, Mods Nil wr V → V.cell? ⟨G7, 0, none⟩ = some (.int .i64 (q : Int)) := fun V hV => (B5.out.mods hV (fun h => h)).two.1
          have K1 : ∀ V, Mods Nil wr V → V.cell? ⟨G7, 1, none⟩ = some (.slice A5 n c5) := fun V hV => (B5.out.mods hV (fun h => h)).two.2.1
          have HERR := Lib.hid (show ∀ V, Mods Nil wr V → Calls Try.prog 22 #[.pointer (some ⟨g, 0, none⟩)] V (fun e V' => e = .returned (.int .i64 e1) ∧ Mods Nil wr V') from fun V hV => (err_any (R5.out.mods hV (fun h => h) (fun _ _ h => h))).mono (fun e V' ⟨h1, h2⟩ => ⟨h1, h2 ▸ hV⟩))
          clear b7 o5 r5 he1 hz hul ab5 m5 hG7g hi k0 k1 HROW y2 y3
          go_wp2_with fail
          refine qt_region 5 (by kernel_rfl) rfl ?_
          refine qt_quiet (fun V => Mods Nil wr V) 0 3 2 (by kernel_rfl) ((Mods.refl Nil wr).drew) ?_
          simp only [List.drop_zero, List.take_succ_cons, List.take_zero]
          repeat (first
            | go_big_quiet_skip
            | (go_big_quiet_want; first
                | (refine gq_call HERR.out ?_ ?_; (focus (intro V; go_simp; done)); go_big_quiet_on)
                | (refine gq_op (v := ?_) ?_ ?_; rotate_left; (focus (intro V hV; go_simp; try with_reducible rfl)); go_big_quiet_on))
              simp only [Act.put, List.setIfInBounds_toArray, List.set_cons_zero, List.set_cons_succ])
          refine wpQuiet_nil ?_
          intro V hV
          refine qt_list 3 2 rfl (by kernel_rfl) ?_
          simp only [List.drop_succ_cons, List.drop_zero]
          have ABV := AB5.out.mods hV (fun h => h)
          obtain ⟨y0, y1, y2, y3⟩ := ABV.two
          have z1 := (ABV.set_ 0 (.int .i64 (q : Int))).cell 1
          simp at z1
          have z2 := (ABV.set_ 0 (.int .i64 (q : Int))).frozen 1
          have bF := set_one ABV (.int .i64 (q : Int)) (.slice A5 n c5)
          have HV := Lib.hid hV
          obtain ⟨f0, f1, -, -⟩ := bF.two
          have HABV := Lib.hid ABV
          clear hV ABV bF K0 K1
          go_wp2_with fail
          have mm : Mods (· = w.heap.size) V ((V.setCell ⟨w.heap.size, 0, none⟩ (.int .i64 (q : Int))).setCell ⟨w.heap.size, 1, none⟩ (.slice A5 n c5)) := Mods.setCell (S := (· = w.heap.size)) (Mods.setCell (S := (· = w.heap.size)) (Mods.refl _ _) (fun _ => rfl) _) (fun _ => rfl) _
          have oV := own_mods O5.out HV.out (fun _ _ h => h)
          exact bodyPost_ret (v := .tuple #[.agg #[.int .i64 (q : Int), .slice A5 n c5], .int .i64 e1]) (by simp [results, Try.results58, go_sem, f0, f1]) rfl ⟨(q : Int), A5, n, c5, by rw [HRR.out.1], ((M5.out.trans (HV.out.mono (fun _ _ h => h.elim))).setNew (by simp) _).setNew (by simp) _, fun h => by
            rw [HRR.out.1] at h
            obtain ⟨g1, g2⟩ := HRR.out.2 h
            rw [g1, g2]
            subst h
            exact ⟨(R5.out.mods HV.out (fun h => h) (fun _ _ h => h)).mods mm (fun h => HNE.out h.symm) (fun q hq h => by have := HK.out q hq; omega), rfl, HLN.out, own_mods oV mm (fun q hq h => own_blk_ne oV HABV.out (by decide) (h ▸ hq))⟩⟩
    · have hER := Lib.hid (rowR_bad2 hE1 hys hE2)
      have HE2 := Lib.hid hE2
      have hne2 : (numE ys 0 4 != 0) = true := by simp [hE2]
      generalize rowR xs = RR at hER ⊢
      generalize numE ys 0 4 = E2 at HN2 hER HE2 hne2
      generalize numX ys 0 4 = X2 at HN2
      have HNE := Lib.hid hne
      clear hE1 r1 r2 hX1 hR hq hys hE2 hne hgl hlim
      go_enter Try.func58, Try.ntmps58
      go_wp2_with (go_at_call 52; first
        | (refine (HN1.out).mono ?_; rintro e w2 ⟨rfl, m2, r2⟩; have R2 := Lib.hid (r2 (by first | rfl | trivial)); have M2 := Lib.hid (MM.out.trans m2); have AB2 := Lib.hid (AB.out.mods m2 (fun h => HNE.out h)); clear m2 r2 HN1)
        | (refine (HN2.out _ R2.out).mono ?_; rintro e w3 ⟨rfl, m3, -⟩; have M3 := Lib.hid (M2.out.trans m3); have AB3 := AB2.out.mods m3 (fun h => HNE.out h); obtain ⟨y0, y1, y2, y3⟩ := AB3.two; have z1 := (AB3.set_ 0 (.int .i64 0)).cell 1; simp at z1; have z2 := (AB3.set_ 0 (.int .i64 0)).frozen 1; obtain ⟨f0, f1, -, -⟩ := (set_one AB3 (.int .i64 0) (.slice none 0 0)).two; clear m3 AB3))
      exact bodyPost_ret (v := .tuple #[.agg #[.int .i64 0, .slice none 0 0], .int .i64 E2]) (by simp [results, Try.results58, go_sem, f0, f1]) rfl ⟨0, none, 0, 0, by rw [hER.out], (M3.out.setNew (by simp) _).setNew (by simp) _, fun h => absurd (hER.out ▸ h) HE2.out⟩
  · have hER := Lib.hid (rowR_bad1 hE1)
    have HE2 := Lib.hid hE1
    have hne2 : (numE xs 0 7 != 0) = true := by simp [hE1]
    generalize rowR xs = RR at hER ⊢
    generalize numE xs 0 7 = E2 at HN1 hER HE2 hne2
    generalize numX xs 0 7 = X2 at HN1
    have HNE := Lib.hid hne
    clear hE1 hne hgl hlim
    go_enter Try.func58, Try.ntmps58
    go_wp2_with (go_at_call 52; refine (HN1.out).mono ?_; rintro e w3 ⟨rfl, m3, -⟩; have M3 := Lib.hid (MM.out.trans m3); have AB3 := AB.out.mods m3 (fun h => HNE.out h); obtain ⟨y0, y1, y2, y3⟩ := AB3.two; have z1 := (AB3.set_ 0 (.int .i64 0)).cell 1; simp at z1; have z2 := (AB3.set_ 0 (.int .i64 0)).frozen 1; obtain ⟨f0, f1, -, -⟩ := (set_one AB3 (.int .i64 0) (.slice none 0 0)).two; clear m3 AB3)
    exact bodyPost_ret (v := .tuple #[.agg #[.int .i64 0, .slice none 0 0], .int .i64 E2]) (by simp [results, Try.results58, go_sem, f0, f1]) rfl ⟨0, none, 0, 0, by rw [hER.out], (M3.out.setNew (by simp) _).setNew (by simp) _, fun h => absurd (hER.out ▸ h) HE2.out⟩
end Go.Proofs.Ytcncgjiaefjmhaa
end
