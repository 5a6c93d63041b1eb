/- A cell that is set on a disk that may stop: what is there behind a crash. No program. -/
import Derived.Test.YtgpnddgkbjlehaaRun8
namespace Go.Proofs.Ytgpnddgkbjlehaa
set_option maxRecDepth 100000
set_option linter.unusedVariables false

theorem eight_small {t : Nat} (h : t < 256) : eight t = [0, 0, 0, 0, 0, 0, 0, UInt8.ofNat t] := by
  unfold eight
  rw [Nat.div_eq_of_lt (show t < 72057594037927936 by omega), Nat.div_eq_of_lt (show t < 281474976710656 by omega), Nat.div_eq_of_lt (show t < 1099511627776 by omega), Nat.div_eq_of_lt (show t < 4294967296 by omega), Nat.div_eq_of_lt (show t < 16777216 by omega), Nat.div_eq_of_lt (show t < 65536 by omega), Nat.div_eq_of_lt h]
  rfl
theorem eight_nought {t : Nat} (h : t < 256) {j : Nat} (hj : j < 7) : (eight t)[j]? = some 0 := by
  rw [eight_small h]
  match j, hj with
  | 0, _ => rfl
  | 1, _ => rfl
  | 2, _ => rfl
  | 3, _ => rfl
  | 4, _ => rfl
  | 5, _ => rfl
  | 6, _ => rfl
theorem first_at {b : List UInt8} (hb : b.length = 64) {j : Nat} (hj : j < 8) : b[j]? = (eight (turnN b 0))[j]? := by
  rw [eight_turnN hb (by omega), List.getElem?_take, if_pos hj, List.getElem?_drop, Nat.zero_add]
theorem last_at {b : List UInt8} (hb : b.length = 64) {j : Nat} (hj : j < 8) : b[56 + j]? = (eight (turnN b 56))[j]? := by
  rw [eight_turnN hb (by omega), List.getElem?_take, if_pos hj, List.getElem?_drop]
/-- A write that was cut off, while turns are small. -/
theorem tear_small {w o : List UInt8} (hw : w.length = 64) (ho : o.length = 64) {n : Nat} (hn : n ≤ 64) (h1 : turnN w 0 < 256) (h2 : turnN w 56 < 256) (h3 : turnN o 0 < 256) (h4 : turnN o 56 < 256) :
    tear n w o = o ∨ ((tear n w o).length = 64 ∧ turnN (tear n w o) 0 = turnN w 0 ∧ turnN (tear n w o) 56 = turnN o 56) ∨ tear n w o = w := by
  have hg := fun i => tear_get hw ho hn i
  by_cases h7 : n ≤ 7
  · left
    apply List.ext_getElem?
    intro i
    rw [hg i]
    by_cases hi : i < n
    · rw [if_pos hi, first_at hw (by omega), first_at ho (by omega), eight_nought h1 (by omega), eight_nought h3 (by omega)]
    · rw [if_neg hi]
  · by_cases h64 : n = 64
    · right; right
      rw [h64]
      exact tear_all hw ho
    · right; left
      refine ⟨tear_length hw ho hn, ?_, ?_⟩
      · unfold turnN
        congr 1
        apply List.ext_getElem?
        intro i
        simp only [List.drop_zero, List.getElem?_take]
        split
        · rw [hg i, if_pos (by omega)]
        · rfl
      · unfold turnN
        congr 1
        apply List.ext_getElem?
        intro j
        simp only [List.getElem?_take, List.getElem?_drop]
        split
        · rename_i hj
          rw [hg (56 + j)]
          by_cases hi : 56 + j < n
          · rw [if_pos hi, last_at hw hj, last_at ho hj, eight_nought h2 (by omega), eight_nought h4 (by omega)]
          · rw [if_neg hi]
        · rfl
/-- What is found behind a write that was cut off. -/
theorem op2_torn {at_ : Nat} {b0 b1 : List UInt8} {c : PCell} (hc : op2 at_ b0 b1 = c) (h0 : b0.length = 64) (h1 : b1.length = 64) {s : List UInt8} (hs : s.length ≤ 43) (hg : c.great + 1 < 256) {n : Nat} (hn : n ≤ 64) {X : List UInt8} (hX : tear n (layC (c.great + 1) s) (if c.spare = 0 then b0 else b1) = X) :
    (op2 at_ (if c.spare = 0 then X else b0) (if c.spare = 0 then b1 else X)).great ≤ c.great + 1 ∧
    ((op2 at_ (if c.spare = 0 then X else b0) (if c.spare = 0 then b1 else X)).told = c.told ∨ (op2 at_ (if c.spare = 0 then X else b0) (if c.spare = 0 then b1 else X)).told = layC (c.great + 1) s) := by
  obtain ⟨e1, e2, e3, hcs⟩ := op2_cases at_ b0 b1
  have ht := op2_tell hc hs (by omega)
  rw [hc] at e1 e2 e3 hcs
  have hf := layC_first (t := c.great + 1) (by omega) s
  have hl := layC_last (t := c.great + 1) (by omega) hs
  have hT := tear_small (layC_length (t := c.great + 1) hs) (o := if c.spare = 0 then b0 else b1) (by split <;> assumption) hn (by omega) (by omega) (by split <;> omega) (by split <;> omega)
  rw [hX] at hT
  rcases hT with hT | ⟨hT1, hT2, hT3⟩ | hT
  · have e : op2 at_ (if c.spare = 0 then X else b0) (if c.spare = 0 then b1 else X) = c := by
      rw [hT]
      by_cases hz : c.spare = 0
      · rw [if_pos hz, if_pos hz, if_pos hz, hc]
      · rw [if_neg hz, if_neg hz, if_neg hz, hc]
    rw [e]
    exact ⟨by omega, .inl rfl⟩
  · rw [hf] at hT2
    have hlo : turnN X 56 ≤ c.great := by rw [hT3]; split <;> omega
    have hXr : rightC X = false := by
      unfold rightC
      have : decide (turnN X 0 = turnN X 56) = false := by simp; omega
      rw [this]
      simp
    by_cases hz : c.spare = 0
    · rw [if_pos hz, if_pos hz]
      obtain ⟨f1, f2, f3, hfs⟩ := op2_cases at_ X b1
      refine ⟨by rw [f3]; omega, .inl ?_⟩
      rcases hcs with h | h | h
      · rcases hfs with k | k | k
        · rw [k.2.2.1, h.2.2.1]
        · rw [hXr] at k; cases k.1
        · rw [h.1] at k; cases k.2.1
      · omega
      · rcases hfs with k | k | k
        · rw [h.2.1] at k; cases k.1
        · rw [hXr] at k; cases k.1
        · rw [k.2.2.1, h.2.2.1]
    · rw [if_neg hz, if_neg hz]
      obtain ⟨f1, f2, f3, hfs⟩ := op2_cases at_ b0 X
      refine ⟨by rw [f3]; omega, .inl ?_⟩
      rcases hcs with h | h | h
      · omega
      · rcases hfs with k | k | k
        · rw [hXr] at k; cases k.1
        · rw [k.2.2.1, h.2.2.1]
        · rw [h.1] at k; cases k.1
      · omega
  · rw [hT, ht]
    exact ⟨by show c.great + 1 ≤ _; omega, .inr rfl⟩
/-- A disk that stops ahead of the second call that counts. -/
theorem set_stops {L : List (List UInt8)} {c : PCell} (hp : c.at_ + c.spare < L.length) {s : List UInt8} (hs : s.length ≤ 43) (he : c.err = 0) (hg : c.great + 1 < 18446744073709551616) {k : Int} (h0 : 0 ≤ k) (h1 : k < 2) :
    ∃ W, c.set ⟨L, [], k, false⟩ s = (⟨L, W, 0, true⟩, c.fail 20, 20) ∧ W.length ≤ 1 ∧ ∀ pick, ∃ n, n ≤ 64 ∧ crashL L W pick = L.set (c.at_ + c.spare) (tear n (layC (c.great + 1) s) (L.getD (c.at_ + c.spare) [])) := by
  have hsame : L.set (c.at_ + c.spare) (tear 0 (layC (c.great + 1) s) (L.getD (c.at_ + c.spare) [])) = L := by
    rw [tear_zero, List.getD_eq_getElem?_getD, List.getElem?_eq_getElem hp]
    exact List.set_getElem_self hp
  have hat : (⟨L, [], k, false⟩ : PD).at_ ((c.at_ + c.spare : Nat) : Int) = 0 := by
    unfold PD.at_
    dsimp only
    rw [if_neg (by simp), if_neg (by omega)]
  have hput : c.put ⟨L, [], k, false⟩ (layC (c.great + 1) s) = (⟨L, if k = 0 then [] else [(c.at_ + c.spare, layC (c.great + 1) s)], 0, true⟩, 20) := by
    by_cases hk : k = 0
    · subst hk
      have hw : (⟨L, [], 0, false⟩ : PD).write ((c.at_ + c.spare : Nat) : Int) (layC (c.great + 1) s) = (⟨L, [], 0, true⟩, 20) := by
        unfold PD.write
        rw [hat, if_neg (by simp), if_neg (by rw [layC_length hs]; simp)]
        rfl
      unfold PCell.put
      rw [hw]
      rfl
    · have hk1 : k = 1 := by omega
      subst hk1
      have hw : (⟨L, [], 1, false⟩ : PD).write ((c.at_ + c.spare : Nat) : Int) (layC (c.great + 1) s) = (⟨L, [(c.at_ + c.spare, layC (c.great + 1) s)], 0, false⟩, 0) := by
        unfold PD.write
        rw [hat, if_neg (by simp), if_neg (by rw [layC_length hs]; simp)]
        rfl
      unfold PCell.put
      rw [hw]
      rfl
  refine ⟨if k = 0 then [] else [(c.at_ + c.spare, layC (c.great + 1) s)], ?_, by split <;> simp, fun pick => ?_⟩
  · unfold PCell.set
    rw [if_neg (by omega), if_neg (by simp [he]), if_neg (by omega), hput, if_pos (by simp)]
  · by_cases hk : k = 0
    · rw [if_pos hk]
      exact ⟨0, by omega, by rw [hsame]; rfl⟩
    · rw [if_neg hk]
      cases pick with
      | nil => exact ⟨0, by omega, by rw [hsame]; rfl⟩
      | cons p ps => exact ⟨p.toNat % 65, by omega, rfl⟩
/-- One that doesn't. -/
theorem set_goes {L : List (List UInt8)} {c : PCell} (hp : c.at_ + c.spare < L.length) {s : List UInt8} (hs : s.length ≤ 43) (he : c.err = 0) (hg : c.great + 1 < 18446744073709551616) {k : Int} (h2 : 2 ≤ k) :
    c.set ⟨L, [], k, false⟩ s = (⟨L.set (c.at_ + c.spare) (layC (c.great + 1) s), [], k - 1 - 1, false⟩, c.tell s, 0) := by
  have hat : (⟨L, [], k, false⟩ : PD).at_ ((c.at_ + c.spare : Nat) : Int) = 0 := by
    unfold PD.at_
    dsimp only
    rw [if_neg (by simp), if_neg (by omega)]
  have hc1 : (⟨L, [], k, false⟩ : PD).count = (⟨L, [], k - 1, false⟩, 0) := by
    unfold PD.count
    dsimp only
    rw [if_neg (by omega), if_pos (by omega)]
  have hw : (⟨L, [], k, false⟩ : PD).write ((c.at_ + c.spare : Nat) : Int) (layC (c.great + 1) s) = (⟨L, [(c.at_ + c.spare, layC (c.great + 1) s)], k - 1, false⟩, 0) := by
    unfold PD.write
    rw [hat, if_neg (by simp), if_neg (by rw [layC_length hs]; simp), hc1, if_neg (by simp)]
    rfl
  have hc2 : (⟨L, [(c.at_ + c.spare, layC (c.great + 1) s)], k - 1, false⟩ : PD).count = (⟨L, [(c.at_ + c.spare, layC (c.great + 1) s)], k - 1 - 1, false⟩, 0) := by
    unfold PD.count
    dsimp only
    rw [if_neg (by omega), if_pos (by omega)]
  have hput : c.put ⟨L, [], k, false⟩ (layC (c.great + 1) s) = (⟨L.set (c.at_ + c.spare) (layC (c.great + 1) s), [], k - 1 - 1, false⟩, 0) := by
    unfold PCell.put
    rw [hw, if_neg (by simp)]
    unfold PD.sync
    rw [if_neg (by simp), hc2, if_neg (by simp)]
    rfl
  unfold PCell.set
  rw [if_neg (by omega), if_neg (by simp [he]), if_neg (by omega), hput, if_neg (by simp)]
/-- The two blocks, one of them another one. -/
theorem set_two {L : List (List UInt8)} (hL : L.length = 2) {sp : Nat} (hsp : sp ≤ 1) (X : List UInt8) : (L.set (0 + sp) X).getD 0 [] = (if sp = 0 then X else L.getD 0 []) ∧ (L.set (0 + sp) X).getD 1 [] = (if sp = 0 then L.getD 1 [] else X) ∧ L.getD (0 + sp) [] = (if sp = 0 then L.getD 0 [] else L.getD 1 []) := by
  match L, hL with
  | [a, b], _ =>
    match sp, hsp with
    | 0, _ => exact ⟨rfl, rfl, rfl⟩
    | 1, _ => exact ⟨rfl, rfl, rfl⟩
/-- One round: set, on a disk that may stop; a crash; opened again. -/
theorem sure_step {L : List (List UInt8)} (hL : L.length = 2) (h64 : ∀ b ∈ L, b.length = 64) {c : PCell} (hc : op2 0 (L.getD 0 []) (L.getD 1 []) = c) {i : Nat} (hg : c.great ≤ i) (hi : i ≤ 20) (hct : c.turn ≤ c.great) {s : List UInt8} (hs : s.length ≤ 43) {kk : Nat} (pick : List UInt8) :
    ∃ D7 c7 f L2 c8, c.set ⟨L, [], (kk : Int), false⟩ s = (D7, c7, f) ∧ D7.crash pick = ⟨L2, [], -1, false⟩ ∧ D7.W.length ≤ 1 ∧ L2.length = 2 ∧ op2 0 (L2.getD 0 []) (L2.getD 1 []) = c8 ∧ c8.great ≤ i + 1 ∧ c.turn ≤ c8.turn ∧
      ((f = 0 ∧ c7.data = s ∧ c.turn < c7.turn ∧ c8.data = s) ∨ (f = 20 ∧ c7.data = c.data ∧ (c8.data = s ∨ c8.data = c.data))) := by
  obtain ⟨e1, e2, e3, hcs⟩ := op2_cases 0 (L.getD 0 []) (L.getD 1 [])
  rw [hc] at e1 e2 e3 hcs
  have hsp : c.spare ≤ 1 := by rcases hcs with h | h | h <;> omega
  have hb0 : (L.getD 0 []).length = 64 := by
    rw [List.getD_eq_getElem?_getD, List.getElem?_eq_getElem (by omega)]
    exact h64 _ (List.getElem_mem _)
  have hb1 : (L.getD 1 []).length = 64 := by
    rw [List.getD_eq_getElem?_getD, List.getElem?_eq_getElem (by omega)]
    exact h64 _ (List.getElem_mem _)
  have htd := PCell.tell_data c hs
  have htt := PCell.tell_turn (c := c) (by omega) s
  by_cases hk : kk < 2
  · obtain ⟨W, h1, hW, h2⟩ := set_stops (L := L) (c := c) (by rw [e1]; omega) hs e2 (by omega) (k := (kk : Int)) (by omega) (by omega)
    obtain ⟨n, hn, h3⟩ := h2 pick
    rw [e1] at h3
    obtain ⟨X, hX⟩ : ∃ X, tear n (layC (c.great + 1) s) (L.getD (0 + c.spare) []) = X := ⟨_, rfl⟩
    rw [hX] at h3
    obtain ⟨g0, g1, g2⟩ := set_two hL hsp X
    rw [g2] at hX
    have ht := op2_torn hc hb0 hb1 hs (by omega) hn hX
    rw [← g0, ← g1] at ht
    refine ⟨_, _, _, L.set (0 + c.spare) X, _, h1, ?_, hW, by simpa using hL, rfl, Nat.le_trans ht.1 (by omega), ?_, .inr ⟨rfl, rfl, ?_⟩⟩
    · show (⟨crashL L W pick, [], -1, false⟩ : PD) = _
      rw [h3]
    · unfold PCell.turn at hct ⊢
      rcases ht.2 with h | h
      · rw [h]
        exact Nat.le_refl _
      · rw [h, layC_first (by omega)]
        omega
    · unfold PCell.data
      rcases ht.2 with h | h
      · right; rw [h]
      · left; rw [h]; exact layC_data _ hs
  · have h1 := set_goes (c := c) (L := L) (by rw [e1]; omega) hs e2 (by omega) (k := (kk : Int)) (by omega)
    rw [e1] at h1
    obtain ⟨g0, g1, g2⟩ := set_two hL hsp (layC (c.great + 1) s)
    have ht := op2_tell hc hs (by omega)
    rw [← g0, ← g1] at ht
    refine ⟨_, _, _, _, _, h1, rfl, by simp, by simpa [crashL] using hL, ht, by show c.great + 1 ≤ _; omega, by rw [htt]; omega, .inl ⟨rfl, htd, by rw [htt]; omega, htd⟩⟩
end Go.Proofs.Ytgpnddgkbjlehaa
