/- The reference of layer 10: rows, as they are put (rows). -/
import Derived.Test.YtkodmgnagfolpaaRef10c
import Derived.Test.YtkodmgnagfolpaaConf1
import Derived.Deep.QuietTactic
import Derived.BigQuiet
namespace Go.Proofs.Ytkodmgnagfolpaa
set_option maxRecDepth 100000
open Go.RowKit
set_option linter.unusedVariables false
set_option linter.unusedSimpArgs false

def rowsP (n : Nat) (l : List PW) (j : Nat) : List UInt8 := putAll (n :: rowsN (l.take j))
theorem rowsP_zero (n : Nat) (l : List PW) : rowsP n l 0 = putU n := by simp [rowsP, rowsN, putAll]
theorem rowsP_succ {n j : Nat} {l : List PW} {q : PW} (h : l[j]? = some q) : rowsP n l (j + 1) = (rowsP n l j ++ (putU q.shard.toNat ++ putU q.lens.length)) ++ putAll q.lens := by
  obtain ⟨hj, e⟩ := List.getElem?_eq_some_iff.1 h
  unfold rowsP
  rw [List.take_succ_eq_append_getElem hj, e, rowsN_append]
  simp [rowsN, rowN, putAll, putAll_append]
theorem rowsN_len : ∀ (l : List PW), (∀ r ∈ l, rowS r) → (rowsN l).length ≤ 6 * l.length
  | [], _ => by simp [rowsN]
  | r :: l, h => by
    have h1 := (h r List.mem_cons_self).2.2.1
    have h2 := rowsN_len l (fun q hq => h q (List.mem_cons_of_mem _ hq))
    simp only [rowsN, rowN, List.length_append, List.length_cons]
    omega
theorem rowsP_len {n j : Nat} {l : List PW} (hn : n ≤ 8) (hl : l.length ≤ 8) (h : ∀ r ∈ l, rowS r) : (rowsP n l j).length ≤ 441 := by
  have hS : ∀ r ∈ l.take j, rowS r := fun r hr => h r (List.mem_of_mem_take hr)
  have h1 := rowsN_len (l.take j) hS
  have h2 := putAll_length (n :: rowsN (l.take j)) (fun x hx => by
    rcases List.mem_cons.1 hx with e | hx
    · omega
    · exact rowsN_lt _ hS x hx)
  have h3 : (l.take j).length ≤ 8 := by simp; omega
  unfold rowsP
  simp only [List.length_cons] at h2
  omega
end Go.Proofs.Ytkodmgnagfolpaa
