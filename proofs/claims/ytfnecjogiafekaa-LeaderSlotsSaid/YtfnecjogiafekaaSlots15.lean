/- LeaderSlots: a leader's states, from the first promise to the last vote; votes as bits. No program. -/
import Derived.Test.YtfnecjogiafekaaLawM15
import Derived.Test.YtfnecjogiafekaaInRows
import Derived.Test.YtfnecjogiafekaaRowF
namespace Go.Proofs.Ytfnecjogiafekaa
set_option maxRecDepth 100000
open Go.RowKit
set_option linter.unusedVariables false
set_option linter.unusedSimpArgs false

/-- Behind i promises. -/
def slA (n i : Nat) : PLd := if i ≤ n / 2 then { many := n, stage := 1, bal := 7, first := 3, prom := List.range i } else { many := n, stage := 2, bal := 7, first := 3, next := 3, prom := List.range (n / 2 + 1) }
theorem slA_next {n i : Nat} (h1 : 1 ≤ n) (hi : i < n) : ∃ r, (slA n i).promise (i : Int) 7 0 [] = slA n (i + 1) ∧ (slA n i).promV (i : Int) 7 0 [] = [] ∧ (slA n i).promB (i : Int) 7 0 [] = r := by
  by_cases h : i ≤ n / 2
  · have e : slA n i = { many := n, stage := 1, bal := 7, first := 3, prom := List.range i } := if_pos h
    rw [e]
    have hd : ¬ ({ many := n, stage := 1, bal := 7, first := 3, prom := List.range i } : PLd).deaf (i : Int) 7 := deaf_not rfl rfl (by omega) (by show (i : Int) < (n : Int); omega) (by simp)
    by_cases h2 : i + 1 ≤ n / 2
    · obtain ⟨g1, g2, g3⟩ := promise_few hd (by show (List.range i).length + 1 ≤ n / 2; simpa using h2) 0 []
      refine ⟨_, g1.trans ?_, g2, g3⟩
      unfold slA
      rw [if_pos h2, List.range_succ]
      rfl
    · obtain ⟨g1, g2, g3⟩ := promise_lead (low := 0) (vs := []) hd (by show n / 2 < (List.range i).length + 1; simp; omega) (fun v hv => by cases hv)
      refine ⟨_, g1.trans ?_, g2.trans rfl, g3⟩
      unfold slA
      rw [if_neg h2]
      obtain rfl : i = n / 2 := by omega
      rw [List.range_succ]
      rfl
  · have e : slA n i = { many := n, stage := 2, bal := 7, first := 3, next := 3, prom := List.range (n / 2 + 1) } := if_neg h
    have e2 : slA n (i + 1) = { many := n, stage := 2, bal := 7, first := 3, next := 3, prom := List.range (n / 2 + 1) } := if_neg (by omega)
    rw [e, e2]
    obtain ⟨g1, g2, g3⟩ := promise_deaf (l := { many := n, stage := 2, bal := 7, first := 3, next := 3, prom := List.range (n / 2 + 1) }) (node := (i : Int)) (b := 7) (.inl (by simp)) 0 []
    exact ⟨_, g1, g2, g3⟩
/-- The k-th value. -/
def valR (l : List Row) (k : Nat) : List UInt8 := ((l[k]?).map Row.xs).getD []
theorem valR_at {l : List Row} {k : Nat} {r : Row} (h : l[k]? = some r) : valR l k = r.xs := by unfold valR; rw [h]; rfl
/-- What is open: of m slots those that aren't done, and who voted. -/
def slO (l : List Row) (D : Nat → Bool) (Wh : Nat → List Nat) (m : Nat) : List POp := (List.range m).filterMap (fun k => if D k then none else some ⟨⟨3 + k, 7, valR l k⟩, Wh k⟩)
theorem slO_succ (l : List Row) (D : Nat → Bool) (Wh : Nat → List Nat) (m : Nat) : slO l D Wh (m + 1) = slO l D Wh m ++ (if D m then [] else [⟨⟨3 + m, 7, valR l m⟩, Wh m⟩]) := by
  unfold slO
  rw [List.range_succ, List.filterMap_append]
  congr 1
  cases h : D m <;> simp [h]
def slC (n : Nat) (l : List Row) (D : Nat → Bool) (Wh : Nat → List Nat) (m : Nat) : PLd := { many := n, stage := 2, bal := 7, first := 3, next := 3 + m, prom := List.range (n / 2 + 1), opn := slO l D Wh m }
theorem slC_zero {n : Nat} (h1 : 1 ≤ n) (l : List Row) (D : Nat → Bool) (Wh : Nat → List Nat) : slA n n = slC n l D Wh 0 := by
  unfold slA
  rw [if_neg (by omega)]
  rfl
theorem slC_next {n : Nat} (l : List Row) {m : Nat} (hm : m ≤ 1000) {r : Row} (hr : l[m]? = some r) : (slC n l (fun _ => false) (fun _ => []) m).propose r.xs = slC n l (fun _ => false) (fun _ => []) (m + 1) ∧ (slC n l (fun _ => false) (fun _ => []) m).propX r.xs = ⟨3 + m, 7, r.xs⟩ ∧ (slC n l (fun _ => false) (fun _ => []) m).propE = 0 := by
  obtain ⟨h1, h2, h3⟩ := propose_ok (l := slC n l (fun _ => false) (fun _ => []) m) rfl (by show 3 + m ≠ _; omega) r.xs
  refine ⟨h1.trans ?_, h2, h3⟩
  unfold slC
  rw [slO_succ, valR_at hr]
  rfl
/-- What becomes of one slot. -/
def dNext (n : Nat) (D : Nat → Bool) (Wh : Nat → List Nat) (k node : Nat) : Nat → Bool := fun j => if j = k then decide (n / 2 < (addW (Wh k) node).length) else D j
def wNext (Wh : Nat → List Nat) (k node : Nat) : Nat → List Nat := fun j => if j = k then addW (Wh k) node else Wh j
theorem slO_vote {n : Nat} (l : List Row) {D : Nat → Bool} {Wh : Nat → List Nat} {k node : Nat} (hk : D k = false) : ∀ m, (slO l D Wh m).filterMap (voteO n node (3 + k)) = slO l (dNext n D Wh k node) (wNext Wh k node) m
  | 0 => rfl
  | m + 1 => by
    rw [slO_succ, slO_succ, List.filterMap_append, slO_vote l hk m]
    congr 1
    by_cases hmk : m = k
    · subst hmk
      rw [hk]
      unfold dNext wNext
      simp only [if_pos]
      show List.filterMap _ [(⟨⟨3 + m, 7, valR l m⟩, Wh m⟩ : POp)] = _
      unfold voteO
      by_cases hl : n / 2 < (addW (Wh m) node).length
      · simp [hl]
      · simp [hl]
    · unfold dNext wNext
      rw [if_neg hmk, if_neg hmk]
      cases D m with
      | true => rfl
      | false =>
        show List.filterMap _ [(⟨⟨3 + m, 7, valR l m⟩, Wh m⟩ : POp)] = [(⟨⟨3 + m, 7, valR l m⟩, Wh m⟩ : POp)]
        have hv : voteO n node (3 + k) (⟨⟨3 + m, 7, valR l m⟩, Wh m⟩ : POp) = some ⟨⟨3 + m, 7, valR l m⟩, Wh m⟩ := if_pos (show 3 + m ≠ 3 + k by omega)
        rw [List.filterMap_cons, hv]
        rfl
theorem slO_voteD {n : Nat} (l : List Row) {D : Nat → Bool} {Wh : Nat → List Nat} {k node : Nat} (hk : D k = true) : ∀ m, (slO l D Wh m).filterMap (voteO n node (3 + k)) = slO l D Wh m
  | 0 => rfl
  | m + 1 => by
    rw [slO_succ, List.filterMap_append, slO_voteD l hk m]
    congr 1
    by_cases hmk : m = k
    · subst hmk
      rw [hk]
      rfl
    · cases D m with
      | true => rfl
      | false =>
        show List.filterMap _ [(⟨⟨3 + m, 7, valR l m⟩, Wh m⟩ : POp)] = [(⟨⟨3 + m, 7, valR l m⟩, Wh m⟩ : POp)]
        have hv : voteO n node (3 + k) (⟨⟨3 + m, 7, valR l m⟩, Wh m⟩ : POp) = some ⟨⟨3 + m, 7, valR l m⟩, Wh m⟩ := if_pos (show 3 + m ≠ 3 + k by omega)
        rw [List.filterMap_cons, hv]
        rfl
theorem slO_chosen {n : Nat} (l : List Row) {D : Nat → Bool} {Wh : Nat → List Nat} {k node : Nat} : ∀ m, chosenO n node (3 + k) (slO l D Wh m) = if k < m ∧ D k = false ∧ n / 2 < (addW (Wh k) node).length then some ⟨3 + k, 7, valR l k⟩ else none
  | 0 => by simp [slO, chosenO]
  | m + 1 => by
    rw [slO_succ]
    cases hD : D m with
    | true =>
      simp only [if_pos, List.append_nil]
      rw [slO_chosen l m]
      by_cases hmk : m = k
      · subst hmk
        rw [if_neg (by simp [hD]), if_neg (by simp [hD])]
      · have : k < m + 1 ↔ k < m := by omega
        simp only [this]
    | false =>
      have e : (if false = true then ([] : List POp) else [⟨⟨3 + m, 7, valR l m⟩, Wh m⟩]) = [⟨⟨3 + m, 7, valR l m⟩, Wh m⟩] := rfl
      rw [e, chosenO_snoc, slO_chosen l m]
      by_cases hmk : m = k
      · subst hmk
        rw [hD]
        by_cases hl : n / 2 < (addW (Wh m) node).length
        · simp [hl]
        · simp [hl]
      · have h1 : ¬ 3 + m = 3 + k := by omega
        have : k < m + 1 ↔ k < m := by omega
        simp only [this, h1, false_and, if_false]
/-- A vote that comes. -/
theorem slC_vote {n : Nat} (l : List Row) {D : Nat → Bool} {Wh : Nat → List Nat} {k node m : Nat} (hn : node < n) (hkm : k < m) (hk : D k = false) : (slC n l D Wh m).accept (node : Int) 7 (3 + k) = slC n l (dNext n D Wh k node) (wNext Wh k node) m ∧ (slC n l D Wh m).chosen (node : Int) 7 (3 + k) = if n / 2 < (addW (Wh k) node).length then some ⟨3 + k, 7, valR l k⟩ else none := by
  obtain ⟨h1, h2⟩ := accept_hears (l := slC n l D Wh m) (node := (node : Int)) (b := 7) (mute_not rfl rfl (by omega) (by show (node : Int) < (n : Int); omega)) (3 + k)
  refine ⟨h1.trans ?_, h2.trans ?_⟩
  · show ({ many := n, stage := 2, bal := 7, first := 3, next := 3 + m, prom := List.range (n / 2 + 1), opn := (slO l D Wh m).filterMap (voteO n node (3 + k)) } : PLd) = _
    rw [slO_vote l hk]
    rfl
  · show chosenO n node (3 + k) (slO l D Wh m) = _
    rw [slO_chosen]
    simp only [hkm, hk, true_and]
theorem slC_voteD {n : Nat} (l : List Row) {D : Nat → Bool} {Wh : Nat → List Nat} {k node m : Nat} (hn : node < n) (hk : D k = true) : (slC n l D Wh m).accept (node : Int) 7 (3 + k) = slC n l D Wh m ∧ (slC n l D Wh m).chosen (node : Int) 7 (3 + k) = none := by
  obtain ⟨h1, h2⟩ := accept_hears (l := slC n l D Wh m) (node := (node : Int)) (b := 7) (mute_not rfl rfl (by omega) (by show (node : Int) < (n : Int); omega)) (3 + k)
  refine ⟨h1.trans ?_, h2.trans ?_⟩
  · show ({ many := n, stage := 2, bal := 7, first := 3, next := 3 + m, prom := List.range (n / 2 + 1), opn := (slO l D Wh m).filterMap (voteO n node (3 + k)) } : PLd) = _
    rw [slO_voteD l hk]
    rfl
  · show chosenO n node (3 + k) (slO l D Wh m) = _
    rw [slO_chosen, if_neg (by simp [hk])]
/-- How many are open. -/
def cntD (D : Nat → Bool) : Nat → Nat
  | 0 => 0
  | m + 1 => cntD D m + if D m then 0 else 1
theorem slO_len (l : List Row) (D : Nat → Bool) (Wh : Nat → List Nat) : ∀ m, (slO l D Wh m).length = cntD D m
  | 0 => rfl
  | m + 1 => by
    rw [slO_succ, List.length_append, slO_len l D Wh m, cntD]
    cases D m <;> rfl
theorem cntD_le (D : Nat → Bool) : ∀ m, cntD D m ≤ m
  | 0 => Nat.le_refl _
  | m + 1 => by
    have := cntD_le D m
    simp only [cntD]
    split <;> omega

/-! Votes as bits. -/
/-- The bits of a byte are the nodes of a list. -/
def isBits (n B : Nat) (W : List Nat) : Prop := B < 256 ∧ W.Nodup ∧ (∀ j ∈ W, j < n) ∧ ∀ j, B.testBit j = decide (j ∈ W)
theorem isBits_nil (n : Nat) : isBits n 0 [] := ⟨by omega, List.nodup_nil, (fun j h => (by cases h)), (fun j => by simp)⟩
theorem isBits_add {n B node : Nat} {W : List Nat} (h : isBits n B W) (hn : node < n) (h8 : n ≤ 8) : isBits n (B ||| 2 ^ node) (addW W node) := by
  obtain ⟨h1, h2, h3, h4⟩ := h
  have hp : 2 ^ node < 2 ^ 8 := Nat.pow_lt_pow_right (by omega) (by omega)
  refine ⟨Nat.or_lt_two_pow (n := 8) h1 hp, addW_nodup h2 node, fun j hj => ?_, fun j => ?_⟩
  · rcases addW_mem hj with hj | rfl
    · exact h3 j hj
    · exact hn
  · rw [Nat.testBit_or, h4, Nat.testBit_two_pow]
    unfold addW
    by_cases hm : node ∈ W
    · rw [if_pos hm]
      by_cases hj : node = j
      · subst hj; simp [hm]
      · simp [hj]
    · rw [if_neg hm]
      by_cases hj : node = j
      · subst hj; simp
      · have : ¬ j = node := fun e => hj e.symm
        simp [hj, this]
/-- How many of the first i bits are set. -/
def cntB (B : Nat) : Nat → Nat
  | 0 => 0
  | i + 1 => cntB B i + (if B.testBit i then 1 else 0)
theorem cntB_le (B : Nat) : ∀ i, cntB B i ≤ i
  | 0 => Nat.le_refl _
  | i + 1 => by
    have := cntB_le B i
    simp only [cntB]
    split <;> omega
theorem cntB_filter {B : Nat} {W : List Nat} (h : ∀ j, B.testBit j = decide (j ∈ W)) : ∀ i, cntB B i = ((List.range i).filter (fun j => decide (j ∈ W))).length
  | 0 => rfl
  | i + 1 => by
    rw [cntB, cntB_filter h i, List.range_succ, List.filter_append, List.length_append, h i]
    by_cases hi : i ∈ W <;> simp [hi]
theorem cntB_all {n B : Nat} {W : List Nat} (h : isBits n B W) : cntB B n = W.length := by
  rw [cntB_filter h.2.2.2 n]
  refine List.Perm.length_eq ((List.perm_ext_iff_of_nodup (List.nodup_range.sublist List.filter_sublist) h.2.1).2 (fun j => ?_))
  simp only [List.mem_filter, List.mem_range, decide_eq_true_eq]
  exact ⟨fun g => g.2, fun g => ⟨h.2.2.1 j g, g⟩⟩
theorem bit_one (B i : Nat) : B / 2 ^ i % 2 = if B.testBit i then 1 else 0 := by
  rw [Nat.testBit_eq_decide_div_mod_eq]
  rcases Nat.mod_two_eq_zero_or_one (B / 2 ^ i) with h | h <;> simp [h]
end Go.Proofs.Ytfnecjogiafekaa
