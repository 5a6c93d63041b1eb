/- Rows of lengths as plain lists: a number at each place, without the noughts at the end, the least and the greatest, together. No program. -/
import Derived.Test.YtbpflkjodiaokaaBaseM
import Derived.Test.YtbpflkjodiaokaaOpen
namespace Go.Proofs.Ytbpflkjodiaokaa
set_option maxRecDepth 100000
open Go.RowKit
set_option linter.unusedVariables false
set_option linter.unusedSimpArgs false

def vat (xs : List Nat) (i : Nat) : Nat := xs.getD i 0
theorem vat_lt {xs : List Nat} {i : Nat} (h : i < xs.length) : vat xs i = xs[i] := by simp [vat, List.getD, h]
theorem vat_ge {xs : List Nat} {i : Nat} (h : xs.length ≤ i) : vat xs i = 0 := by simp [vat, List.getD, h]
theorem vat_nil (i : Nat) : vat [] i = 0 := by simp [vat]
theorem vat_take {xs : List Nat} {k i : Nat} (h : i < k) : vat (xs.take k) i = vat xs i := by simp [vat, List.getD, List.getElem?_take, h]
theorem vat_take_ge {xs : List Nat} {k i : Nat} (h : k ≤ i) : vat (xs.take k) i = 0 := by
  apply vat_ge; simp; omega
theorem vat_set {xs : List Nat} {k i v : Nat} (hk : k < xs.length) : vat (xs.set k v) i = if i = k then v else vat xs i := by
  simp only [vat, List.getD, List.getElem?_set]
  by_cases h : i = k
  · subst h; simp [hk]
  · rw [if_neg h, if_neg (Ne.symm h)]
theorem vat_append {xs ys : List Nat} {i : Nat} : vat (xs ++ ys) i = if i < xs.length then vat xs i else vat ys (i - xs.length) := by
  simp only [vat, List.getD, List.getElem?_append]
  split <;> rfl
theorem vat_replicate (n i : Nat) : vat (List.replicate n 0) i = 0 := by
  simp only [vat, List.getD, List.getElem?_replicate]
  split <;> rfl
theorem vat_drop {xs : List Nat} {k i : Nat} : vat (xs.drop k) i = vat xs (k + i) := by simp [vat, List.getD, List.getElem?_drop]
theorem vat_ext {xs ys : List Nat} (hl : xs.length = ys.length) (h : ∀ i, vat xs i = vat ys i) : xs = ys := by
  apply List.ext_getElem hl
  intro i h1 h2
  rw [← vat_lt h1, ← vat_lt h2, h]
/-- All numbers are below 2^64. -/
def Bd (xs : List Nat) : Prop := ∀ i, vat xs i < 18446744073709551616
theorem Bd.of {xs : List Nat} (h : ∀ x ∈ xs, x < 18446744073709551616) : Bd xs := fun i => by
  by_cases hi : i < xs.length
  · rw [vat_lt hi]; exact h _ (List.getElem_mem hi)
  · rw [vat_ge (by omega)]; omega

/-! Without the noughts at the end. -/
def isCut (xs : List Nat) : Prop := ∀ k, xs.length = k + 1 → vat xs k ≠ 0
theorem isCut_nil : isCut [] := fun k h => by simp at h
theorem cut_len {a b : List Nat} (ha : isCut a) (h : ∀ i, vat a i = vat b i) : a.length ≤ b.length := by
  rcases Nat.lt_or_ge b.length a.length with hlt | hge
  · obtain ⟨k, hk⟩ : ∃ k, a.length = k + 1 := ⟨a.length - 1, by omega⟩
    have h1 := ha k hk
    rw [h, vat_ge (by omega)] at h1
    exact absurd rfl h1
  · exact hge
theorem cut_ext {a b : List Nat} (ha : isCut a) (hb : isCut b) (h : ∀ i, vat a i = vat b i) : a = b :=
  vat_ext (Nat.le_antisymm (cut_len ha h) (cut_len hb (fun i => (h i).symm))) h
/-- How many numbers are left. -/
def clen : List Nat → Nat
  | [] => 0
  | x :: r => if clen r = 0 then (if x = 0 then 0 else 1) else clen r + 1
theorem clen_le : ∀ xs : List Nat, clen xs ≤ xs.length
  | [] => Nat.le_refl _
  | x :: r => by
    have := clen_le r
    simp only [clen, List.length_cons]
    split
    · split <;> omega
    · omega
theorem vat_cons_zero (x : Nat) (r : List Nat) : vat (x :: r) 0 = x := by simp [vat]
theorem vat_cons_succ (x : Nat) (r : List Nat) (i : Nat) : vat (x :: r) (i + 1) = vat r i := by simp [vat]
theorem clen_behind : ∀ (xs : List Nat) (i : Nat), clen xs ≤ i → vat xs i = 0
  | [], i, _ => vat_nil i
  | x :: r, i, h => by
    simp only [clen] at h
    split at h
    · rename_i h0
      split at h
      · rename_i hx
        subst hx
        cases i with
        | zero => exact vat_cons_zero _ _
        | succ i => rw [vat_cons_succ]; exact clen_behind r i (by omega)
      · cases i with
        | zero => omega
        | succ i => rw [vat_cons_succ]; exact clen_behind r i (by omega)
    · cases i with
      | zero => omega
      | succ i => rw [vat_cons_succ]; exact clen_behind r i (by omega)
theorem clen_last : ∀ (xs : List Nat) (k : Nat), clen xs = k + 1 → vat xs k ≠ 0
  | [], k, h => by simp [clen] at h
  | x :: r, k, h => by
    simp only [clen] at h
    split at h
    · split at h
      · omega
      · obtain rfl : k = 0 := by omega
        rw [vat_cons_zero]; assumption
    · rename_i h0
      obtain ⟨q, rfl⟩ : ∃ q, k = q + 1 := ⟨k - 1, by omega⟩
      rw [vat_cons_succ]
      exact clen_last r q (by omega)
/-- How a loop from behind finds it. -/
theorem clen_of {xs : List Nat} {k : Nat} (hk : k ≤ xs.length) (h1 : ∀ i, k ≤ i → vat xs i = 0) (h2 : k = 0 ∨ vat xs (k - 1) ≠ 0) : k = clen xs := by
  rcases Nat.lt_trichotomy k (clen xs) with h | h | h
  · have := clen_last xs (clen xs - 1) (by omega)
    exact absurd (h1 _ (by omega)) this
  · exact h
  · rcases h2 with h2 | h2
    · omega
    · exact absurd (clen_behind xs (k - 1) (by omega)) h2
def cut (xs : List Nat) : List Nat := xs.take (clen xs)
theorem cut_length (xs : List Nat) : (cut xs).length = clen xs := by rw [cut, List.length_take]; exact Nat.min_eq_left (clen_le xs)
theorem cut_le (xs : List Nat) : (cut xs).length ≤ xs.length := by rw [cut_length]; exact clen_le xs
theorem vat_cut (xs : List Nat) (i : Nat) : vat (cut xs) i = vat xs i := by
  rcases Nat.lt_or_ge i (clen xs) with h | h
  · exact vat_take h
  · rw [show vat (cut xs) i = 0 from vat_take_ge h, clen_behind xs i h]
theorem cut_isCut (xs : List Nat) : isCut (cut xs) := fun k h => by
  rw [vat_cut]
  exact clen_last xs k (by rw [← cut_length]; exact h)
theorem cut_eq {a b : List Nat} (h : ∀ i, vat a i = vat b i) : cut a = cut b := cut_ext (cut_isCut a) (cut_isCut b) (fun i => by rw [vat_cut, vat_cut, h])
theorem Bd.cut {xs : List Nat} (h : Bd xs) : Bd (cut xs) := fun i => by rw [vat_cut]; exact h i
theorem Bd.nil : Bd [] := fun i => by rw [vat_nil]; omega

/-! How two rows stand. -/
def leB (a b : List Nat) : Bool := decide (∀ i, i < a.length → vat a i ≤ vat b i)
theorem leB_iff {a b : List Nat} : leB a b = true ↔ ∀ i, vat a i ≤ vat b i := by
  unfold leB
  rw [decide_eq_true_iff]
  constructor
  · intro h i
    by_cases hi : i < a.length
    · exact h i hi
    · rw [vat_ge (show a.length ≤ i by omega)]; omega
  · exact fun h i _ => h i
def sameB (a b : List Nat) : Bool := decide (∀ i, i < max a.length b.length → vat a i = vat b i)
theorem sameB_iff {a b : List Nat} : sameB a b = true ↔ ∀ i, vat a i = vat b i := by
  unfold sameB
  rw [decide_eq_true_iff]
  constructor
  · intro h i
    by_cases hi : i < max a.length b.length
    · exact h i hi
    · rw [vat_ge (show a.length ≤ i by omega), vat_ge (show b.length ≤ i by omega)]
  · exact fun h i _ => h i
theorem sameB_le {a b : List Nat} : sameB a b = (leB a b && leB b a) := by
  rw [Bool.eq_iff_iff, Bool.and_eq_true, sameB_iff, leB_iff, leB_iff]
  exact ⟨fun h => ⟨fun i => Nat.le_of_eq (h i), fun i => Nat.le_of_eq (h i).symm⟩, fun h i => Nat.le_antisymm (h.1 i) (h.2 i)⟩

/-! The least and the greatest of rows. -/
def minAt : List (List Nat) → Nat → Nat
  | [], _ => 0
  | [x], i => vat x i
  | x :: y :: r, i => min (vat x i) (minAt (y :: r) i)
def maxAt : List (List Nat) → Nat → Nat
  | [], _ => 0
  | x :: r, i => max (vat x i) (maxAt r i)
theorem minAt_snoc : ∀ (l : List (List Nat)) (x : List Nat) (i : Nat), l ≠ [] → minAt (l ++ [x]) i = min (minAt l i) (vat x i)
  | [], x, i, h => absurd rfl h
  | [y], x, i, _ => rfl
  | y :: z :: r, x, i, _ => by
    show min (vat y i) (minAt ((z :: r) ++ [x]) i) = min (min (vat y i) (minAt (z :: r) i)) (vat x i)
    rw [minAt_snoc (z :: r) x i (by simp)]
    omega
theorem maxAt_snoc : ∀ (l : List (List Nat)) (x : List Nat) (i : Nat), maxAt (l ++ [x]) i = max (maxAt l i) (vat x i)
  | [], x, i => by simp [maxAt]
  | y :: r, x, i => by
    show max (vat y i) (maxAt (r ++ [x]) i) = max (max (vat y i) (maxAt r i)) (vat x i)
    rw [maxAt_snoc r x i]
    omega
theorem le_minAt {l : List (List Nat)} (hl : l ≠ []) {i k : Nat} : k ≤ minAt l i ↔ ∀ x ∈ l, k ≤ vat x i := by
  match l, hl with
  | [x], _ => simp [minAt]
  | x :: y :: r, _ =>
    show k ≤ min (vat x i) (minAt (y :: r) i) ↔ _
    rw [Nat.le_min, le_minAt (l := y :: r) (by simp)]
    simp
theorem maxAt_le {l : List (List Nat)} {i k : Nat} : maxAt l i ≤ k ↔ ∀ x ∈ l, vat x i ≤ k := by
  match l with
  | [] => simp [maxAt]
  | x :: r =>
    show max (vat x i) (maxAt r i) ≤ k ↔ _
    rw [Nat.max_le, maxAt_le (l := r)]
    simp
theorem minAt_le {l : List (List Nat)} {x : List Nat} (hx : x ∈ l) (i : Nat) : minAt l i ≤ vat x i := (le_minAt (by intro h; subst h; cases hx)).1 (Nat.le_refl _) x hx
theorem le_maxAt {l : List (List Nat)} {x : List Nat} (hx : x ∈ l) (i : Nat) : vat x i ≤ maxAt l i := maxAt_le.1 (Nat.le_refl _) x hx
theorem minAt_lt {l : List (List Nat)} (h : ∀ x ∈ l, Bd x) (i : Nat) : minAt l i < 18446744073709551616 := by
  match l with
  | [] => simp [minAt]
  | x :: r =>
    have h1 := minAt_le (l := x :: r) (x := x) (by simp) i
    have h2 := h x (by simp) i
    omega
theorem maxAt_lt {l : List (List Nat)} (h : ∀ x ∈ l, Bd x) (i : Nat) : maxAt l i < 18446744073709551616 := by
  have := (maxAt_le (l := l) (i := i) (k := 18446744073709551615)).2 (fun x hx => by have := h x hx i; omega)
  omega

/-! Together. -/
def total (xs : List Nat) : Nat := xs.foldl (· + ·) 0
theorem foldl_add (xs : List Nat) (k : Nat) : xs.foldl (· + ·) k = k + xs.foldl (· + ·) 0 := by
  induction xs generalizing k with
  | nil => rfl
  | cons x r ih => simp only [List.foldl_cons]; rw [ih (k + x), ih (0 + x)]; omega
theorem total_nil : total [] = 0 := rfl
theorem total_cons (x : Nat) (r : List Nat) : total (x :: r) = x + total r := by
  unfold total; rw [List.foldl_cons, foldl_add]; omega
theorem total_append (a b : List Nat) : total (a ++ b) = total a + total b := by
  induction a with
  | nil => simp [total_nil]
  | cons x r ih => rw [List.cons_append, total_cons, total_cons, ih]; omega
theorem total_snoc (a : List Nat) (x : Nat) : total (a ++ [x]) = total a + x := by rw [total_append, total_cons, total_nil]; omega
theorem total_take_succ (xs : List Nat) (j : Nat) (h : j < xs.length) : total (xs.take (j + 1)) = total (xs.take j) + vat xs j := by
  rw [List.take_succ_eq_append_getElem h, total_snoc, vat_lt h]
theorem total_take_le (xs : List Nat) (j : Nat) : total (xs.take j) ≤ total xs := by
  have h : xs.take j ++ xs.drop j = xs := List.take_append_drop j xs
  have h2 := total_append (xs.take j) (xs.drop j)
  rw [h] at h2
  omega
theorem total_mono {xs : List Nat} {i j : Nat} (h : i ≤ j) : total (xs.take i) ≤ total (xs.take j) := by
  have := total_take_le (xs.take j) i
  rwa [List.take_take, Nat.min_eq_left h] at this
/-- The sum, and whether it fits. -/
def sumV (xs : List Nat) : Nat := if total xs < 18446744073709551616 then total xs else 0
def sumE (xs : List Nat) : Int := if total xs < 18446744073709551616 then 0 else 37

/-! Numbers in memory. -/
@[simp] theorem nums_length (xs : List Nat) : (nums xs).length = xs.length := by simp [nums]
theorem nums_get (xs : List Nat) (j : Nat) (h : j < xs.length) : (nums xs)[j]? = some (.int .u64 (vat xs j : Int)) := by simp [nums, vat_lt h, h]
theorem nums_one (xs : List Nat) : ∀ u ∈ nums xs, u.oneCell' = true := by
  intro u hu
  simp [nums] at hu
  obtain ⟨a, _, rfl⟩ := hu
  rfl
theorem nums_append (xs ys : List Nat) : nums (xs ++ ys) = nums xs ++ nums ys := by simp [nums]
theorem nums_take (xs : List Nat) (k : Nat) : (nums xs).take k = nums (xs.take k) := by simp [nums]
theorem nums_set (xs : List Nat) (k x : Nat) : (nums xs).set k (.int .u64 (x : Int)) = nums (xs.set k x) := by simp [nums, List.map_set]
theorem sl_num {w : World} {A : Option Addr} {c j : Nat} {xs : List Nat} (h : Sl w A c (nums xs)) (hj : j < xs.length) :
    ∃ b off, A = some ⟨b, off, none⟩ ∧ b < w.heap.size ∧ w.cell? ⟨b, off + j, none⟩ = some (.int .u64 (vat xs j : Int)) := by
  obtain ⟨b, off, hA, hb, hc⟩ := h.at_ (by simp; omega)
  exact ⟨b, off, hA, hb, hc j _ (nums_get xs j hj)⟩
theorem made_nums (n : Nat) : (madeCells (Value.int .u64 0).cells (n * 1)).toList = nums (List.replicate n 0) := by
  rw [Nat.mul_one]
  unfold madeCells nums
  simp [Value.cells]
  apply List.ext_getElem
  · simp
  · intro i h1 h2
    simp [Nat.mod_one]
end Go.Proofs.Ytbpflkjodiaokaa
