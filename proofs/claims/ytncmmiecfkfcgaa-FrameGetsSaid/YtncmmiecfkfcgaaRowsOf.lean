/- Frames one behind the other, in plain bytes. No program. -/
import Derived.Test.YtncmmiecfkfcgaaFrame0
namespace Go.Proofs.Ytncmmiecfkfcgaa
set_option linter.unusedVariables false

def rowsB : Nat → List (List UInt8) → List UInt8
  | _, [] => []
  | k, b :: r => frameOf (UInt8.ofNat k) b ++ rowsB (k + 1) r
def kindsOf : Nat → List (List UInt8) → List (UInt8 × List UInt8)
  | _, [] => []
  | k, b :: r => (UInt8.ofNat k, b) :: kindsOf (k + 1) r
theorem rowsB_append : ∀ (k : Nat) (a b : List (List UInt8)), rowsB k (a ++ b) = rowsB k a ++ rowsB (k + a.length) b
  | k, [], b => by simp [rowsB]
  | k, x :: a, b => by
    simp only [List.cons_append, rowsB, List.length_cons, List.append_assoc]
    rw [rowsB_append (k + 1) a b, show k + 1 + a.length = k + (a.length + 1) by omega]
theorem rowsB_succ (l : List (List UInt8)) (j : Nat) (h : j < l.length) : rowsB 0 (l.take (j + 1)) = rowsB 0 (l.take j) ++ frameOf (UInt8.ofNat j) l[j] := by
  rw [List.take_succ_eq_append_getElem h, rowsB_append]
  have : (l.take j).length = j := by simp; omega
  rw [this, Nat.zero_add]
  simp [rowsB]
theorem kindsOf_length : ∀ (k : Nat) (l : List (List UInt8)), (kindsOf k l).length = l.length
  | _, [] => rfl
  | k, b :: r => by simp [kindsOf, kindsOf_length (k + 1) r]
theorem kindsOf_get : ∀ (k : Nat) (l : List (List UInt8)) (i : Nat) (h : i < l.length), (kindsOf k l)[i]? = some (UInt8.ofNat (k + i), l[i])
  | k, b :: r, 0, _ => by simp [kindsOf]
  | k, b :: r, i + 1, h => by
    simp at h
    simp only [kindsOf, List.getElem?_cons_succ, List.getElem_cons_succ]
    rw [kindsOf_get (k + 1) r i h, show k + 1 + i = k + (i + 1) by omega]
theorem allOf_rows : ∀ (k : Nat) (l : List (List UInt8)) (rest : List UInt8), (∀ b ∈ l, b.length ≤ 65535) → getE rest ≠ 0 → allOf (rowsB k l ++ rest) = (kindsOf k l, (rowsB k l).length)
  | k, [], rest, _, h => by simp only [rowsB, List.nil_append]; rw [allOf_stop h]; rfl
  | k, b :: r, rest, hb, h => by
    simp only [rowsB, List.append_assoc]
    rw [allOf_frame (hb b List.mem_cons_self), allOf_rows (k + 1) r rest (fun x hx => hb x (List.mem_cons_of_mem _ hx)) h]
    simp [kindsOf]
end Go.Proofs.Ytncmmiecfkfcgaa
