/- Texts laid as one: Conf9, Confa, Confb. -/
import Derived.Test.YtkodmgnagfolpaaConfM1
import Derived.Test.YtkodmgnagfolpaaConfM2
import Derived.Test.YtkodmgnagfolpaaQK

section
/- What is read, number by number, in the order in which a program reads it. No program. -/
namespace Go.Proofs.Ytkodmgnagfolpaa
set_option maxRecDepth 100000
set_option linter.unusedVariables false
set_option linter.unusedSimpArgs false

/-- A row's lengths. -/
def lensF : Nat → List UInt8 → Int × List UInt8 × List Nat
  | 0, xs => (0, xs, [])
  | n + 1, xs => if (readUint 0 xs).1 ≠ 0 then ((readUint 0 xs).1, [], []) else if (lensF n (readUint 0 xs).2.1).1 ≠ 0 then ((lensF n (readUint 0 xs).2.1).1, [], []) else (0, (lensF n (readUint 0 xs).2.1).2.1, (readUint 0 xs).2.2 :: (lensF n (readUint 0 xs).2.1).2.2)
theorem lensF_snoc : ∀ (n : Nat) (xs : List UInt8), lensF (n + 1) xs = if (lensF n xs).1 ≠ 0 then ((lensF n xs).1, [], []) else if (readUint 0 (lensF n xs).2.1).1 ≠ 0 then ((readUint 0 (lensF n xs).2.1).1, [], []) else (0, (readUint 0 (lensF n xs).2.1).2.1, (lensF n xs).2.2 ++ [(readUint 0 (lensF n xs).2.1).2.2])
  | 0, xs => by by_cases h : (readUint 0 xs).1 = 0 <;> simp [lensF, h]
  | n + 1, xs => by
    have ih := lensF_snoc n (readUint 0 xs).2.1
    rw [lensF]
    by_cases h1 : (readUint 0 xs).1 = 0
    · rw [if_neg (by simp [h1]), ih]
      by_cases h2 : (lensF n (readUint 0 xs).2.1).1 = 0
      · have e : lensF (n + 1) xs = (0, (lensF n (readUint 0 xs).2.1).2.1, (readUint 0 xs).2.2 :: (lensF n (readUint 0 xs).2.1).2.2) := by rw [lensF, if_neg (by simp [h1]), if_neg (by simp [h2])]
        rw [e]
        simp only [ne_eq, not_true_eq_false, if_false, h2]
        by_cases h3 : (readUint 0 (lensF n (readUint 0 xs).2.1).2.1).1 = 0
        · simp [h3]
        · simp [h3]
      · have e : lensF (n + 1) xs = ((lensF n (readUint 0 xs).2.1).1, [], []) := by rw [lensF, if_neg (by simp [h1]), if_pos h2]
        rw [e]
        simp [h2]
    · have e : lensF (n + 1) xs = ((readUint 0 xs).1, [], []) := by rw [lensF, if_pos h1]
      rw [if_pos h1, e]
      simp [h1]
theorem lensF_len : ∀ (n : Nat) (xs : List UInt8), (lensF n xs).1 = 0 → (lensF n xs).2.2.length = n
  | 0, xs, _ => rfl
  | n + 1, xs, h => by
    rw [lensF] at h ⊢
    split at h
    · rename_i h1; exact absurd h h1
    rename_i h1
    split at h
    · rename_i h2; exact absurd h h2
    rename_i h2
    rw [if_neg h1, if_neg h2]
    simp [lensF_len n _ (Classical.not_not.1 h2)]
theorem lensF_lt : ∀ (n : Nat) (xs : List UInt8), ∀ x ∈ (lensF n xs).2.2, x < 18446744073709551616
  | 0, xs, x, h => by simp [lensF] at h
  | n + 1, xs, x, h => by
    rw [lensF] at h
    split at h
    · simp at h
    split at h
    · simp at h
    rcases List.mem_cons.1 h with e | h
    · rw [e]; exact valOf_lt64 _ _
    · exact lensF_lt n _ x h
theorem lensF_rest : ∀ (n : Nat) (xs : List UInt8), (lensF n xs).2.1.length ≤ xs.length
  | 0, xs => Nat.le_refl _
  | n + 1, xs => by
    rw [lensF]
    split
    · simp
    split
    · simp
    exact Nat.le_trans (lensF_rest n _) (readUint_le _ _)
theorem lensT_run : ∀ (n : Nat) (a : List Nat) (f : List Nat → NT) (xs : List UInt8), (lensT n a f).run xs = if (lensF n xs).1 ≠ 0 then ((lensF n xs).1, [], {}) else (f (a ++ (lensF n xs).2.2)).run (lensF n xs).2.1
  | 0, a, f, xs => by simp [lensT, lensF]
  | n + 1, a, f, xs => by
    rw [lensT, NT.run, lensF]
    by_cases h1 : (readUint 0 xs).1 = 0
    · have hb := valOf_lt64 xs 0
      rw [if_neg (by simp [h1]), if_neg (by omega), lensT_run n]
      rw [if_neg (by simp [h1] : ¬ (readUint 0 xs).1 ≠ 0)]
      by_cases h2 : (lensF n (readUint 0 xs).2.1).1 = 0
      · simp [h2]
      · simp [h2]
    · rw [if_pos h1, if_pos h1]
      simp [h1]

/-- A row. -/
def rowR (xs : List UInt8) : Int × List UInt8 × PW :=
  if (readUint 0 xs).1 ≠ 0 then ((readUint 0 xs).1, [], {})
  else if 7 < (readUint 0 xs).2.2 then (11, [], {})
  else if (readUint 0 (readUint 0 xs).2.1).1 ≠ 0 then ((readUint 0 (readUint 0 xs).2.1).1, [], {})
  else if 4 < (readUint 0 (readUint 0 xs).2.1).2.2 then (11, [], {})
  else if (lensF (readUint 0 (readUint 0 xs).2.1).2.2 (readUint 0 (readUint 0 xs).2.1).2.1).1 ≠ 0 then ((lensF (readUint 0 (readUint 0 xs).2.1).2.2 (readUint 0 (readUint 0 xs).2.1).2.1).1, [], {})
  else (0, (lensF (readUint 0 (readUint 0 xs).2.1).2.2 (readUint 0 (readUint 0 xs).2.1).2.1).2.1, ⟨((readUint 0 xs).2.2 : Nat), (lensF (readUint 0 (readUint 0 xs).2.1).2.2 (readUint 0 (readUint 0 xs).2.1).2.1).2.2⟩)
theorem rowR_rest (xs : List UInt8) : (rowR xs).2.1.length ≤ xs.length := by
  unfold rowR
  split
  · simp
  split
  · simp
  split
  · simp
  split
  · simp
  split
  · simp
  exact Nat.le_trans (lensF_rest _ _) (Nat.le_trans (readUint_le _ _) (readUint_le _ _))
theorem rowR_ok {xs : List UInt8} (h : (rowR xs).1 = 0) : (∀ x ∈ (rowR xs).2.2.lens, x < 18446744073709551616) ∧ 0 ≤ (rowR xs).2.2.shard ∧ (rowR xs).2.2.shard ≤ 7 ∧ (rowR xs).2.2.lens.length ≤ 4 := by
  unfold rowR at h ⊢
  split at h
  · rename_i h1; exact absurd h h1
  rename_i h1
  split at h
  · simp at h
  rename_i h2
  split at h
  · rename_i h3; exact absurd h h3
  rename_i h3
  split at h
  · simp at h
  rename_i h4
  split at h
  · rename_i h5; exact absurd h h5
  rename_i h5
  rw [if_neg h1, if_neg h2, if_neg h3, if_neg h4, if_neg h5]
  have hl := lensF_len _ _ (Classical.not_not.1 h5)
  refine ⟨lensF_lt _ _, by simp, by simp; omega, by simp; omega⟩
def rowsF : Nat → List UInt8 → Int × List UInt8 × List PW
  | 0, xs => (0, xs, [])
  | n + 1, xs => if (rowR xs).1 ≠ 0 then ((rowR xs).1, [], []) else if (rowsF n (rowR xs).2.1).1 ≠ 0 then ((rowsF n (rowR xs).2.1).1, [], []) else (0, (rowsF n (rowR xs).2.1).2.1, (rowR xs).2.2 :: (rowsF n (rowR xs).2.1).2.2)
theorem rowsF_snoc : ∀ (n : Nat) (xs : List UInt8), rowsF (n + 1) xs = if (rowsF n xs).1 ≠ 0 then ((rowsF n xs).1, [], []) else if (rowR (rowsF n xs).2.1).1 ≠ 0 then ((rowR (rowsF n xs).2.1).1, [], []) else (0, (rowR (rowsF n xs).2.1).2.1, (rowsF n xs).2.2 ++ [(rowR (rowsF n xs).2.1).2.2])
  | 0, xs => by by_cases h : (rowR xs).1 = 0 <;> simp [rowsF, h]
  | n + 1, xs => by
    have ih := rowsF_snoc n (rowR xs).2.1
    rw [rowsF]
    by_cases h1 : (rowR xs).1 = 0
    · rw [if_neg (by simp [h1]), ih]
      by_cases h2 : (rowsF n (rowR xs).2.1).1 = 0
      · have e : rowsF (n + 1) xs = (0, (rowsF n (rowR xs).2.1).2.1, (rowR xs).2.2 :: (rowsF n (rowR xs).2.1).2.2) := by rw [rowsF, if_neg (by simp [h1]), if_neg (by simp [h2])]
        rw [e]
        simp only [ne_eq, not_true_eq_false, if_false, h2]
        by_cases h3 : (rowR (rowsF n (rowR xs).2.1).2.1).1 = 0
        · simp [h3]
        · simp [h3]
      · have e : rowsF (n + 1) xs = ((rowsF n (rowR xs).2.1).1, [], []) := by rw [rowsF, if_neg (by simp [h1]), if_pos h2]
        rw [e]
        simp [h2]
    · have e : rowsF (n + 1) xs = ((rowR xs).1, [], []) := by rw [rowsF, if_pos h1]
      rw [if_pos h1, e]
      simp [h1]
theorem rowsF_rest : ∀ (n : Nat) (xs : List UInt8), (rowsF n xs).2.1.length ≤ xs.length
  | 0, xs => Nat.le_refl _
  | n + 1, xs => by
    rw [rowsF]
    split
    · simp
    split
    · simp
    exact Nat.le_trans (rowsF_rest n _) (rowR_rest _)
theorem rowsF_len : ∀ (n : Nat) (xs : List UInt8), (rowsF n xs).1 = 0 → (rowsF n xs).2.2.length = n
  | 0, xs, _ => rfl
  | n + 1, xs, h => by
    rw [rowsF] at h ⊢
    split at h
    · rename_i h1; exact absurd h h1
    rename_i h1
    split at h
    · rename_i h2; exact absurd h h2
    rename_i h2
    rw [if_neg h1, if_neg h2]
    simp [rowsF_len n _ (Classical.not_not.1 h2)]
theorem rowsF_err {n : Nat} {xs : List UInt8} (h : (rowsF n xs).1 ≠ 0) : ∀ m, (rowsF (n + m) xs).1 = (rowsF n xs).1
  | 0 => rfl
  | m + 1 => by
    have ih := rowsF_err h m
    rw [← Nat.add_assoc, rowsF_snoc, if_pos (by rw [ih]; exact h)]
    exact ih
theorem rowsT_run : ∀ (n : Nat) (a : List PW) (f : List PW → NT) (xs : List UInt8), (rowsT n a f).run xs = if (rowsF n xs).1 ≠ 0 then ((rowsF n xs).1, [], {}) else (f (a ++ (rowsF n xs).2.2)).run (rowsF n xs).2.1
  | 0, a, f, xs => by simp [rowsT, rowsF]
  | n + 1, a, f, xs => by
    rw [rowsT, NT.run, rowsF]
    by_cases h1 : (readUint 0 xs).1 = 0
    · rw [if_neg (by simp [h1])]
      by_cases h2 : 7 < (readUint 0 xs).2.2
      · have e : rowR xs = (11, [], {}) := by unfold rowR; rw [if_neg (by simp [h1]), if_pos h2]
        rw [if_pos (by omega), e]
        simp
      · rw [if_neg (by omega), NT.run]
        by_cases h3 : (readUint 0 (readUint 0 xs).2.1).1 = 0
        · rw [if_neg (by simp [h3])]
          by_cases h4 : 4 < (readUint 0 (readUint 0 xs).2.1).2.2
          · have e : rowR xs = (11, [], {}) := by unfold rowR; rw [if_neg (by simp [h1]), if_neg h2, if_neg (by simp [h3]), if_pos h4]
            rw [if_pos (by omega), e]
            simp
          · rw [if_neg (by omega), lensT_run]
            by_cases h5 : (lensF (readUint 0 (readUint 0 xs).2.1).2.2 (readUint 0 (readUint 0 xs).2.1).2.1).1 = 0
            · have e : rowR xs = (0, (lensF (readUint 0 (readUint 0 xs).2.1).2.2 (readUint 0 (readUint 0 xs).2.1).2.1).2.1, ⟨((readUint 0 xs).2.2 : Nat), (lensF (readUint 0 (readUint 0 xs).2.1).2.2 (readUint 0 (readUint 0 xs).2.1).2.1).2.2⟩) := by unfold rowR; rw [if_neg (by simp [h1]), if_neg h2, if_neg (by simp [h3]), if_neg h4, if_neg (by simp [h5])]
              rw [if_neg (by simp [h5]), rowsT_run n, e]
              simp only [ne_eq, not_true_eq_false, if_false, List.nil_append]
              by_cases h6 : (rowsF n (lensF (readUint 0 (readUint 0 xs).2.1).2.2 (readUint 0 (readUint 0 xs).2.1).2.1).2.1).1 = 0
              · simp [h6]
              · simp [h6]
            · have e : rowR xs = ((lensF (readUint 0 (readUint 0 xs).2.1).2.2 (readUint 0 (readUint 0 xs).2.1).2.1).1, [], {}) := by unfold rowR; rw [if_neg (by simp [h1]), if_neg h2, if_neg (by simp [h3]), if_neg h4, if_pos h5]
              rw [if_pos h5, e]
              simp [h5]
        · have e : rowR xs = ((readUint 0 (readUint 0 xs).2.1).1, [], {}) := by unfold rowR; rw [if_neg (by simp [h1]), if_neg h2, if_pos h3]
          rw [if_pos h3, e]
          simp [h3]
    · have e : rowR xs = ((readUint 0 xs).1, [], {}) := by unfold rowR; rw [if_pos h1]
      rw [if_pos h1, e]
      simp [h1]

/-! Fields. -/
def setC (c : PC) (j x : Nat) : PC :=
  if j = 0 then { c with client := x } else if j = 1 then { c with seq := x } else if j = 2 then { c with shard := x } else if j = 3 then { c with segs := x } else { c with pos := x }
def fldR (j : Nat) (c : PC) (xs : List UInt8) : Int × List UInt8 × PC :=
  if (readUint 0 xs).1 ≠ 0 then ((readUint 0 xs).1, [], c)
  else if (readUint 0 xs).2.2 < bLo j ∨ bHi j < (readUint 0 xs).2.2 then (11, [], c)
  else if j = 5 then (if (rowsF (readUint 0 xs).2.2 (readUint 0 xs).2.1).1 ≠ 0 then ((rowsF (readUint 0 xs).2.2 (readUint 0 xs).2.1).1, [], c) else (0, (rowsF (readUint 0 xs).2.2 (readUint 0 xs).2.1).2.1, { c with rows := (rowsF (readUint 0 xs).2.2 (readUint 0 xs).2.1).2.2 }))
  else (0, (readUint 0 xs).2.1, setC c j (readUint 0 xs).2.2)
theorem fldR_rest (j : Nat) (c : PC) (xs : List UInt8) : (fldR j c xs).2.1.length ≤ xs.length := by
  unfold fldR
  split
  · simp
  split
  · simp
  split
  · split
    · simp
    · exact Nat.le_trans (rowsF_rest _ _) (readUint_le _ _)
  · exact readUint_le _ _
def chain : List Nat → PC → List UInt8 → Int × List UInt8 × PC
  | [], c, xs => (0, xs, c)
  | j :: fs, c, xs => if (fldR j c xs).1 ≠ 0 then ((fldR j c xs).1, [], {}) else chain fs (fldR j c xs).2.2 (fldR j c xs).2.1
theorem need_step {j : Nat} (hj : j ≠ 5) {f : Nat → NT} {c : PC} {fs : List Nat} (h : ∀ x ys, (f x).run ys = chain fs (setC c j x) ys) (xs : List UInt8) : (NT.need (bLo j) (bHi j + 1) f).run xs = chain (j :: fs) c xs := by
  rw [NT.run, chain]
  by_cases h1 : (readUint 0 xs).1 = 0
  · rw [if_neg (by simp [h1])]
    by_cases h2 : (readUint 0 xs).2.2 < bLo j ∨ bHi j < (readUint 0 xs).2.2
    · have e : fldR j c xs = (11, [], c) := by unfold fldR; rw [if_neg (by simp [h1]), if_pos h2]
      rw [if_pos (by omega), e]
      simp
    · have e : fldR j c xs = (0, (readUint 0 xs).2.1, setC c j (readUint 0 xs).2.2) := by unfold fldR; rw [if_neg (by simp [h1]), if_neg h2, if_neg hj]
      rw [if_neg (by omega), e, h]
      simp
  · have e : fldR j c xs = ((readUint 0 xs).1, [], c) := by unfold fldR; rw [if_pos h1]
    rw [if_pos h1, e]
    simp [h1]
theorem rows_step {f : List PW → NT} {c : PC} {fs : List Nat} (h : ∀ l ys, (f l).run ys = chain fs { c with rows := l } ys) (xs : List UInt8) : (allT f).run xs = chain (5 :: fs) c xs := by
  rw [allT, NT.run, chain]
  have hlo : bLo 5 = 0 := rfl
  have hhi : bHi 5 = 8 := rfl
  by_cases h1 : (readUint 0 xs).1 = 0
  · rw [if_neg (by simp [h1])]
    by_cases h2 : (readUint 0 xs).2.2 < bLo 5 ∨ bHi 5 < (readUint 0 xs).2.2
    · have e : fldR 5 c xs = (11, [], c) := by unfold fldR; rw [if_neg (by simp [h1]), if_pos h2]
      rw [if_pos (by omega), e]
      simp
    · rw [if_neg (by omega), rowsT_run]
      by_cases h3 : (rowsF (readUint 0 xs).2.2 (readUint 0 xs).2.1).1 = 0
      · have e : fldR 5 c xs = (0, (rowsF (readUint 0 xs).2.2 (readUint 0 xs).2.1).2.1, { c with rows := (rowsF (readUint 0 xs).2.2 (readUint 0 xs).2.1).2.2 }) := by unfold fldR; rw [if_neg (by simp [h1]), if_neg h2, if_pos rfl, if_neg (by simp [h3])]
        rw [if_neg (by simp [h3]), e, h]
        simp
      · have e : fldR 5 c xs = ((rowsF (readUint 0 xs).2.2 (readUint 0 xs).2.1).1, [], c) := by unfold fldR; rw [if_neg (by simp [h1]), if_neg h2, if_pos rfl, if_pos h3]
        rw [if_pos h3, e]
        simp [h3]
  · have e : fldR 5 c xs = ((readUint 0 xs).1, [], c) := by unfold fldR; rw [if_pos h1]
    rw [if_pos h1, e]
    simp [h1]
/-- An op's fields from one on. -/
def ownFrom (op : Int) (j : Nat) : List Nat := (List.range' j (6 - j)).filter (has op)
theorem ownFrom_yes {op : Int} {j : Nat} (hj : j < 6) (h : has op j = true) : ownFrom op j = j :: ownFrom op (j + 1) := by
  unfold ownFrom
  obtain ⟨k, hk⟩ : ∃ k, 6 - j = k + 1 := ⟨5 - j, by omega⟩
  rw [hk, List.range'_succ, List.filter_cons, if_pos h, show 6 - (j + 1) = k by omega]
theorem ownFrom_no {op : Int} {j : Nat} (hj : j < 6) (h : has op j = false) : ownFrom op j = ownFrom op (j + 1) := by
  unfold ownFrom
  obtain ⟨k, hk⟩ : ∃ k, 6 - j = k + 1 := ⟨5 - j, by omega⟩
  rw [hk, List.range'_succ, List.filter_cons, if_neg (by simp [h]), show 6 - (j + 1) = k by omega]
theorem ownFrom_6 (op : Int) : ownFrom op 6 = [] := rfl
theorem tree_chain {op : Nat} (hop : op ≤ 4) (xs : List UInt8) : (tree op).run xs = chain (ownFrom op 0) { op := op } xs := by
  obtain e | e | e | e | e : op = 0 ∨ op = 1 ∨ op = 2 ∨ op = 3 ∨ op = 4 := by omega
  · subst e
    rw [show ownFrom ((0 : Nat) : Int) 0 = [] by decide]
    rfl
  · subst e
    rw [show ownFrom ((1 : Nat) : Int) 0 = [0, 1, 2, 3] by decide]
    exact need_step (j := 0) (by omega) (fun a ys => need_step (j := 1) (by omega) (fun b zs => need_step (j := 2) (by omega) (fun s us => need_step (j := 3) (by omega) (fun k vs => rfl) us) zs) ys) xs
  · subst e
    rw [show ownFrom ((2 : Nat) : Int) 0 = [0, 1, 2, 5] by decide]
    exact need_step (j := 0) (by omega) (fun a ys => need_step (j := 1) (by omega) (fun b zs => need_step (j := 2) (by omega) (fun s us => rows_step (fun l vs => rfl) us) zs) ys) xs
  · subst e
    rw [show ownFrom ((3 : Nat) : Int) 0 = [0, 1, 4] by decide]
    exact need_step (j := 0) (by omega) (fun a ys => need_step (j := 1) (by omega) (fun b zs => need_step (j := 4) (by omega) (fun s us => rfl) zs) ys) xs
  · subst e
    rw [show ownFrom ((4 : Nat) : Int) 0 = [5] by decide]
    exact rows_step (fun l vs => rfl) xs
end Go.Proofs.Ytkodmgnagfolpaa
end

section
/- Package conf: getNumber; setNumber. -/
namespace Go.Proofs.Ytkodmgnagfolpaa
set_option maxRecDepth 100000
open Go.RowKit
set_option linter.unusedVariables false
set_option linter.unusedSimpArgs false

/-- A number between two bounds, both of which may be. -/
def numE (xs : List UInt8) (lo hi : Nat) : Int := if (readUint 0 xs).1 ≠ 0 then (readUint 0 xs).1 else if (readUint 0 xs).2.2 < lo ∨ hi < (readUint 0 xs).2.2 then 11 else 0
def numX (xs : List UInt8) (lo hi : Nat) : Nat := if numE xs lo hi = 0 then (readUint 0 xs).2.2 else 0
theorem numE_zero {xs : List UInt8} {lo hi : Nat} : numE xs lo hi = 0 ↔ (readUint 0 xs).1 = 0 ∧ lo ≤ (readUint 0 xs).2.2 ∧ (readUint 0 xs).2.2 ≤ hi := by
  unfold numE
  split
  · rename_i h; constructor
    · intro h2; exact absurd h2 h
    · intro h2; exact absurd h2.1 h
  · split
    · simp; omega
    · simp; rename_i h1 h2; exact ⟨Classical.not_not.1 h1, by omega⟩
end Go.Proofs.Ytkodmgnagfolpaa
end

section
/- Package conf: getRow. -/
namespace Go.Proofs.Ytkodmgnagfolpaa
set_option maxRecDepth 100000
open Go.RowKit
set_option linter.unusedVariables false
set_option linter.unusedSimpArgs false

theorem nums_snoc10 (l : List Nat) (x : Nat) : nums (l ++ [x]) = nums l ++ [.int .u64 (x : Int)] := by simp [nums]
theorem rowR_bad1 {xs : List UInt8} (h : numE xs 0 7 ≠ 0) : (rowR xs).1 = numE xs 0 7 := by
  unfold numE at h ⊢
  unfold rowR
  split
  · rfl
  · rename_i h1
    rw [if_neg h1] at h
    by_cases h2 : 7 < (readUint 0 xs).2.2
    · rw [if_pos h2, if_pos (.inr h2)]
    · rw [if_neg (by omega)] at h; exact absurd rfl h
theorem rowR_bad2 {xs ys : List UInt8} (h1 : numE xs 0 7 = 0) (hy : (readUint 0 xs).2.1 = ys) (h : numE ys 0 4 ≠ 0) : (rowR xs).1 = numE ys 0 4 := by
  obtain ⟨r1, -, r2⟩ := numE_zero.1 h1
  unfold rowR
  rw [if_neg (by simp [r1]), if_neg (by omega), hy]
  unfold numE at h ⊢
  split
  · rfl
  · rename_i h1
    rw [if_neg h1] at h
    by_cases h2 : 4 < (readUint 0 ys).2.2
    · rw [if_pos h2, if_pos (.inr h2)]
    · rw [if_neg (by omega)] at h; exact absurd rfl h
end Go.Proofs.Ytkodmgnagfolpaa
end
