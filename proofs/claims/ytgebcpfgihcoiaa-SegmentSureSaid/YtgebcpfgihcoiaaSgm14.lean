/- Package segment: which blocks are a record's: the program's tests and the document's. No program. -/
import Derived.Test.YtgebcpfgihcoiaaSgm13
namespace Go.Proofs.Ytgebcpfgihcoiaa
set_option maxRecDepth 100000
open Go.RowKit
set_option linter.unusedVariables false

theorem cont_fits {b b' : List UInt8} {pl i : Nat} (h : numP b 4 = pl + 1) (hi : i < byteP b 9) : (rightQ b' && contP b' b i) = fitsP b' (numP b 0) pl i (byteP b 9) := by
  rw [Bool.eq_iff_iff]
  unfold rightQ contP fitsP sizedP
  simp only [Bool.and_eq_true, decide_eq_true_eq]
  constructor
  · rintro ⟨⟨h1, h2⟩, h3, h4, h5, h6, h7⟩
    rw [h5] at h7
    refine ⟨⟨h1, h2, ?_⟩, h3, h4.trans h, h6, h5⟩
    split at h7 <;> simp at h7 <;> omega
  · rintro ⟨⟨h1, h2, h3⟩, h4, h5, h6, h7⟩
    refine ⟨⟨h1, h2⟩, h4, h5.trans h.symm, h7, h6, ?_⟩
    rw [h7]
    split <;> simp <;> omega
theorem take_no {l : List (List UInt8)} {p pl e : Nat} (h : ¬ (p < l.length ∧ rightP (l.getD p []) = true ∧ 1 ≤ byteP (l.getD p []) 9 ∧ byteP (l.getD p []) 9 ≤ 92 ∧ e ≤ numP (l.getD p []) 0 ∧ p + byteP (l.getD p []) 9 ≤ l.length ∧
      (∀ i, i < byteP (l.getD p []) 9 → fitsP (l.getD (p + i) []) (numP (l.getD p []) 0) pl i (byteP (l.getD p []) 9) = true))) : takeP l p pl e = none := by
  unfold takeP
  rw [if_neg h]
theorem fits_parts {b : List UInt8} {x pl i m : Nat} (h : fitsP b x pl i m = true) : rightQ b = true ∧ numP b 4 = pl + 1 := by
  unfold fitsP at h
  unfold rightQ
  simp only [Bool.and_eq_true, decide_eq_true_eq] at h ⊢
  exact ⟨⟨h.1.1, h.1.2.1⟩, h.2.2.1⟩
theorem take_no1 {l : List (List UInt8)} {p pl e : Nat} (h : ¬ (p < l.length ∧ rightQ (l.getD p []) = true)) : takeP l p pl e = none :=
  take_no (fun ⟨h1, h2, h3, h4, h5, h6, h7⟩ => h ⟨h1, by have := h7 0 (by omega); rw [Nat.add_zero] at this; exact (fits_parts this).1⟩)
theorem take_no2 {l : List (List UInt8)} {p pl e : Nat} (h : beginsP (l.getD p []) pl e = false) : takeP l p pl e = none :=
  take_no (fun ⟨h1, h2, h3, h4, h5, h6, h7⟩ => by
    have h8 := h7 0 (by omega)
    rw [Nat.add_zero] at h8
    unfold beginsP at h
    simp only [decide_eq_false_iff_not] at h
    exact h ⟨(fits_parts h8).2, h5, h3, h4⟩)
theorem take_no3 {l : List (List UInt8)} {p pl e i : Nat} (hi : i < byteP (l.getD p []) 9) (hb : beginsP (l.getD p []) pl e = true) (h : ¬ (p + i < l.length ∧ rightQ (l.getD (p + i) []) = true ∧ contP (l.getD (p + i) []) (l.getD p []) i = true)) : takeP l p pl e = none :=
  take_no (fun ⟨h1, h2, h3, h4, h5, h6, h7⟩ => by
    have h8 := h7 i hi
    unfold beginsP at hb
    simp only [decide_eq_true_eq] at hb
    rw [← cont_fits hb.1 hi, Bool.and_eq_true] at h8
    exact h ⟨by omega, h8⟩)
theorem take_yes {l : List (List UInt8)} {p pl e : Nat} (h0 : p < l.length) (hr : rightQ (l.getD p []) = true) (hb : beginsP (l.getD p []) pl e = true) (h : ∀ i, i < byteP (l.getD p []) 9 → p + i < l.length ∧ rightQ (l.getD (p + i) []) = true ∧ contP (l.getD (p + i) []) (l.getD p []) i = true) :
    takeP l p pl e = some (joinP l p (byteP (l.getD p []) 9), byteP (l.getD p []) 9, numP (l.getD p []) 0) := by
  unfold beginsP at hb
  simp only [decide_eq_true_eq] at hb
  unfold takeP
  rw [if_pos]
  refine ⟨h0, ?_, hb.2.2.1, hb.2.2.2, hb.2.1, ?_, fun i hi => ?_⟩
  · unfold rightQ at hr
    simp only [Bool.and_eq_true] at hr
    exact hr.1
  · have := (h (byteP (l.getD p []) 9 - 1) (by omega)).1
    omega
  · rw [← cont_fits hb.1 hi, Bool.and_eq_true]
    exact (h i hi).2
theorem joinP_succ (l : List (List UInt8)) (p i : Nat) : joinP l p (i + 1) = joinP l p i ++ dataP (l.getD (p + i) []) := by
  unfold joinP
  rw [List.range_succ, List.map_append, List.flatten_append]
  simp
theorem joinP_length {l : List (List UInt8)} {p : Nat} : ∀ {i : Nat}, (∀ k, k < i → (dataP (l.getD (p + k) [])).length ≤ 45) → (joinP l p i).length ≤ 45 * i
  | 0, _ => by simp [joinP]
  | i + 1, h => by
    rw [joinP_succ, List.length_append]
    have h1 := joinP_length (i := i) (fun k hk => h k (by omega))
    have h2 := h i (by omega)
    omega
theorem dataP_length {b : List UInt8} (h : rightQ b = true) : (dataP b).length ≤ 45 := by
  unfold rightQ at h
  simp only [Bool.and_eq_true, decide_eq_true_eq] at h
  unfold dataP
  simp
  omega
/-- One record more is walked. -/
theorem walk_step {l : List (List UInt8)} {f p pl e m x : Nat} {b : List UInt8} (h : takeP l p pl e = some (b, m, x)) : walkP l (f + 1) p pl e = (b :: (walkP l f (p + m) (pl + 1) x).1, (walkP l f (p + m) (pl + 1) x).2) := by
  rw [walkP_succ, h]
end Go.Proofs.Ytgebcpfgihcoiaa
