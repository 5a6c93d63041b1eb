/- More small helps of the walks of layer 7: rows handed in, bits. -/
import Derived.Test.YtdllgmhipenidaaHelp7
import Derived.Test.YtdllgmhipenidaaInRows
import Derived.Laws.BitsAllLaws
namespace Go.Proofs.Ytdllgmhipenidaa
set_option maxRecDepth 100000
open Go.RowKit
set_option linter.unusedVariables false

/-- One row of those handed in. -/
theorem in7_at {w : World} {A : Option Addr} {c n : Nat} {l : List Row} {ls : List (List UInt8)} (hn : l.length = n) (hls : l.map (·.xs) = ls) (hs : Sl w A c (l.map Row.val)) (hr : ∀ r ∈ l, r.ok w) {j : Nat} (hj : j < n) :
    ∃ b off, ∃ r : Row, A = some ⟨b, off, none⟩ ∧ ls[j]? = some r.xs ∧ r.ok w ∧ b < w.heap.size ∧ w.cell? ⟨b, off + j, none⟩ = some (.slice r.A r.xs.length r.c) := by
  have hj' : j < l.length := by omega
  obtain ⟨b, off, hA, hb, hcell⟩ := hs.at_ (by simp; omega)
  refine ⟨b, off, l[j], hA, by rw [← hls]; simp [hj'], hr l[j] (List.getElem_mem hj'), hb, ?_⟩
  exact hcell j _ (by simp [hj', Row.val])
theorem u8_and3 (n : Nat) : bits .and .u8 (n : Int) 3 = ((n % 4 : Nat) : Int) := by
  have h3 : (BitVec.ofInt 8 3).toNat = 2 ^ 2 - 1 := by decide
  have key : (BitVec.ofInt 8 (n : Int) &&& BitVec.ofInt 8 3).toNat = ((n : Int) % ((2 ^ 8 : Nat) : Int)).toNat % 2 ^ 2 := by
    rw [BitVec.toNat_and, BitVec.toNat_ofInt, h3, Nat.and_two_pow_sub_one_eq_mod]
  show IntKind.u8.wrap ((BitVec.ofInt 8 (n : Int) &&& BitVec.ofInt 8 3).toNat : Nat) = ((n % 4 : Nat) : Int)
  rw [key, IntKind.wrap_u8']
  omega
theorem u8_and1 (n : Nat) : bits .and .u8 (n : Int) 1 = ((n % 2 : Nat) : Int) := by
  have h3 : (BitVec.ofInt 8 1).toNat = 2 ^ 1 - 1 := by decide
  have key : (BitVec.ofInt 8 (n : Int) &&& BitVec.ofInt 8 1).toNat = ((n : Int) % ((2 ^ 8 : Nat) : Int)).toNat % 2 ^ 1 := by
    rw [BitVec.toNat_and, BitVec.toNat_ofInt, h3, Nat.and_two_pow_sub_one_eq_mod]
  show IntKind.u8.wrap ((BitVec.ofInt 8 (n : Int) &&& BitVec.ofInt 8 1).toNat : Nat) = ((n % 2 : Nat) : Int)
  rw [key, IntKind.wrap_u8']
  omega
theorem conv7 {w : World} {A : Option Addr} {c n : Nat} {xs : List UInt8} (hn : xs.length = n) (hs : Sl w A c (bts xs)) : (convert 42 9 (.slice A n c)).run Try.prog w = .ok (.string (strOf xs)) w :=
  run_string_sl _ 42 5 Try.underlying42 Try.underlying5 A n c _ hn hs 9 Try.underlying9
theorem needP_200 {q : Nat} (h : q ≤ 200) : needP q ≤ 5 := by
  unfold needP
  split <;> omega
theorem take_snoc7 {ls : List (List UInt8)} {i : Nat} {x : List UInt8} (h : ls[i]? = some x) : ls.take (i + 1) = ls.take i ++ [x] := by
  rw [List.take_add_one, h]
  rfl
end Go.Proofs.Ytdllgmhipenidaa
