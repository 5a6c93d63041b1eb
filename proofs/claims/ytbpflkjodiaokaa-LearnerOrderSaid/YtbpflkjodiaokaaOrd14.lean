/- What LearnerOrder counts, in plain lists: the top, the next, the gaps, slot by slot. No program. -/
import Derived.Test.YtbpflkjodiaokaaHelp14
namespace Go.Proofs.Ytbpflkjodiaokaa
set_option maxRecDepth 100000
open Go.RowKit
set_option linter.unusedVariables false
set_option linter.unusedSimpArgs false

def hasK (L : List KV) (k : Nat) : Bool := (lookL L k).isSome
def hasKV (L : List KV) (k : Nat) : Value := .bool (hasK L k)
def tpK (L : List KV) : Nat → Nat
  | 0 => 0
  | k + 1 => if hasK L k = true then k + 1 else tpK L k
def nxK (L : List KV) : Nat → Nat
  | 0 => 0
  | k + 1 => if hasK L k = true ∧ nxK L k = k then k + 1 else nxK L k
def gpK (L : List KV) : Nat → Nat
  | 0 => 0
  | k + 1 => if hasK L k = true then gpK L k else gpK L k + 1
theorem tpK_le (L : List KV) : ∀ k, tpK L k ≤ k
  | 0 => Nat.le_refl _
  | k + 1 => by have := tpK_le L k; unfold tpK; split <;> omega
theorem tpK_low (L : List KV) {m : Nat} (h : hasK L m = true) : ∀ k, m < k → m < tpK L k
  | 0, hk => by omega
  | k + 1, hk => by
    unfold tpK
    by_cases hm : m = k
    · subst hm; rw [if_pos h]; omega
    · have := tpK_low L h k (by omega)
      split <;> omega
theorem tpK_up (L : List KV) : ∀ k, tpK L k ≤ topL L
  | 0 => Nat.zero_le _
  | k + 1 => by
    unfold tpK
    by_cases h : hasK L k = true
    · rw [if_pos h]
      unfold hasK at h
      obtain ⟨v, hv⟩ := Option.isSome_iff_exists.1 h
      exact look_top hv
    · rw [if_neg h]; exact tpK_up L k
theorem topL_le {n : Nat} : ∀ {L : List KV}, (∀ p ∈ L, p.1 < n) → topL L ≤ n
  | [], _ => Nat.zero_le _
  | p :: L, h => by
    have h1 := h p (by simp)
    have h2 := topL_le (L := L) (fun q hq => h q (by simp [hq]))
    simp only [topL]; omega
theorem hasK_mem {L : List KV} {p : KV} (h : p ∈ L) : hasK L p.1 = true := by
  unfold hasK
  cases hl : lookL L p.1 with
  | none => exact absurd rfl (lookL_none.1 hl p h)
  | some v => rfl
theorem tpK_top {L : List KV} {n : Nat} (h : ∀ p ∈ L, p.1 < n) : tpK L n = topL L :=
  Nat.le_antisymm (tpK_up L n) (topL_le (fun p hp => tpK_low L (hasK_mem hp) n (h p hp)))
theorem nxK_spec (L : List KV) : ∀ k, nxK L k ≤ k ∧ (∀ m, m < nxK L k → hasK L m = true) ∧ (nxK L k < k → hasK L (nxK L k) = false)
  | 0 => ⟨Nat.le_refl _, fun m hm => by simp [nxK] at hm, fun h => by simp [nxK] at h⟩
  | k + 1 => by
    obtain ⟨h1, h2, h3⟩ := nxK_spec L k
    unfold nxK
    by_cases h : hasK L k = true ∧ nxK L k = k
    · rw [if_pos h]
      refine ⟨Nat.le_refl _, fun m hm => ?_, fun h => by omega⟩
      by_cases hk : m = k
      · rw [hk]; exact h.1
      · exact h2 m (by rw [h.2]; omega)
    · rw [if_neg h]
      refine ⟨by omega, h2, fun _ => ?_⟩
      by_cases hk : nxK L k = k
      · rw [hk]
        cases hb : hasK L k
        · rfl
        · exact absurd ⟨hb, hk⟩ h
      · exact h3 (by omega)
theorem nxK_next {L : List KV} {n : Nat} (h : ∀ p ∈ L, p.1 < n) : nextP L (nxK L n) := by
  obtain ⟨h1, h2, h3⟩ := nxK_spec L n
  refine ⟨h2, ?_⟩
  by_cases hn : nxK L n < n
  · have := h3 hn
    unfold hasK at this
    simpa using this
  · refine lookL_none.2 (fun p hp => ?_)
    have := h p hp
    omega
theorem gpK_len (L : List KV) : ∀ k, (gapsTo L k).length = gpK L k
  | 0 => rfl
  | k + 1 => by
    rw [gapsTo_succ]
    unfold gpK hasK
    cases hl : lookL L k with
    | none => simp [gpK_len L k]
    | some v => simp [gpK_len L k]
theorem gpK_le (L : List KV) : ∀ k, gpK L k ≤ k
  | 0 => Nat.le_refl _
  | k + 1 => by have := gpK_le L k; unfold gpK; split <;> omega
theorem gapsL_len {L : List KV} {n most : Nat} (h : ∀ p ∈ L, p.1 < n) (hm : n ≤ most) : (gapsL L most).length = gpK L (tpK L n) := by
  have h1 := tpK_top h
  have h2 := tpK_le L n
  have h3 := gpK_le L (tpK L n)
  unfold gapsL
  rw [List.length_take, gpK_len, ← h1]
  omega
theorem from_len {L : List KV} {r : Nat} (h : nextP L r) : ∀ m s, s ≤ r → r - s ≤ m → (fromL L s m).length = r - s
  | 0, s, h1, h2 => by simp [fromL]; omega
  | m + 1, s, h1, h2 => by
    unfold fromL
    by_cases hs : s = r
    · subst hs
      rw [h.2]
      simp
    · have := h.1 s (by omega)
      obtain ⟨v, hv⟩ := Option.isSome_iff_exists.1 this
      rw [hv]
      simp only [List.length_cons]
      rw [from_len h m (s + 1) (by omega) (by omega)]
      omega
theorem hasKV_snoc {L : List KV} {t : Nat} {u : List UInt8} (k : Nat) : hasKV (L ++ [(t, u)]) k = if k = t then .bool true else hasKV L k := by
  unfold hasKV hasK
  rw [lookL_snoc]
  by_cases hk : k = t
  · subst hk
    rw [if_pos rfl, if_pos rfl]
    cases lookL L k <;> rfl
  · rw [if_neg hk]
    cases hl : lookL L k with
    | none => simp only; rw [if_neg (fun h => hk h.symm)]
    | some u => rfl
end Go.Proofs.Ytbpflkjodiaokaa
