/- A cell's run, in plain lists: what is set is what is found again. No program. -/
import Derived.Test.YtdllgmhipenidaaCel0
namespace Go.Proofs.Ytdllgmhipenidaa
set_option maxRecDepth 100000
set_option linter.unusedVariables false

/-- A cell as it is opened on two blocks. -/
def op2 (at_ : Nat) (b0 b1 : List UInt8) : PCell := ((cellNew at_).take 0 b0).take 1 b1
theorem cellOpen_two (d : PD) (at_ : Nat) : cellOpen d at_ = op2 at_ (d.read (at_ : Int)).1 (d.read ((at_ : Int) + 1)).1 := rfl
theorem PCell.ext' {c e : PCell} (h1 : c.at_ = e.at_) (h2 : c.spare = e.spare) (h3 : c.told = e.told) (h4 : c.great = e.great) (h5 : c.err = e.err) : c = e := by
  cases c; cases e
  simp only at h1 h2 h3 h4 h5
  subst h1; subst h2; subst h3; subst h4; subst h5
  rfl
theorem right_turn {b : List UInt8} (h : rightC b = true) : 0 < turnN b 0 := by
  unfold rightC at h
  simp only [Bool.and_eq_true, decide_eq_true_eq] at h
  have := h.1.2
  omega
/-- What is told of two blocks. -/
theorem op2_cases (at_ : Nat) (b0 b1 : List UInt8) : (op2 at_ b0 b1).at_ = at_ ∧ (op2 at_ b0 b1).err = 0 ∧ (op2 at_ b0 b1).great = max (max (turnN b0 0) (turnN b0 56)) (max (turnN b1 0) (turnN b1 56)) ∧
    ((rightC b1 = true ∧ (rightC b0 = true → turnN b0 0 < turnN b1 0) ∧ (op2 at_ b0 b1).told = b1 ∧ (op2 at_ b0 b1).spare = 0) ∨
     (rightC b0 = true ∧ (rightC b1 = true → turnN b1 0 ≤ turnN b0 0) ∧ (op2 at_ b0 b1).told = b0 ∧ (op2 at_ b0 b1).spare = 1) ∨
     (rightC b0 = false ∧ rightC b1 = false ∧ (op2 at_ b0 b1).told = zeros64 ∧ (op2 at_ b0 b1).spare = 0)) := by
  have hz : (cellNew at_).turn = 0 := zeros_turn
  cases h0 : rightC b0 with
  | true =>
    have p0 := right_turn h0
    have e0 : (cellNew at_).take 0 b0 = ⟨at_, 1, b0, max 0 (max (turnN b0 0) (turnN b0 56)), 0⟩ := by
      unfold PCell.take
      rw [if_pos ⟨h0, by rw [hz]; exact p0⟩]
      rfl
    unfold op2
    rw [e0]
    by_cases h1 : rightC b1 = true ∧ turnN b0 0 < turnN b1 0
    · have e1 : (⟨at_, 1, b0, max 0 (max (turnN b0 0) (turnN b0 56)), 0⟩ : PCell).take 1 b1 = ⟨at_, 0, b1, max (max 0 (max (turnN b0 0) (turnN b0 56))) (max (turnN b1 0) (turnN b1 56)), 0⟩ := by
        unfold PCell.take
        rw [if_pos ⟨h1.1, h1.2⟩]
      rw [e1]
      exact ⟨rfl, rfl, by simp, .inl ⟨h1.1, fun _ => h1.2, rfl, rfl⟩⟩
    · have e1 : (⟨at_, 1, b0, max 0 (max (turnN b0 0) (turnN b0 56)), 0⟩ : PCell).take 1 b1 = ⟨at_, 1, b0, max (max 0 (max (turnN b0 0) (turnN b0 56))) (max (turnN b1 0) (turnN b1 56)), 0⟩ := by
        unfold PCell.take
        rw [if_neg (fun h => h1 ⟨h.1, h.2⟩)]
      rw [e1]
      exact ⟨rfl, rfl, by simp, .inr (.inl ⟨rfl, fun h => Nat.le_of_not_lt (fun hl => h1 ⟨h, hl⟩), rfl, rfl⟩)⟩
  | false =>
    have e0 : (cellNew at_).take 0 b0 = ⟨at_, 0, zeros64, max 0 (max (turnN b0 0) (turnN b0 56)), 0⟩ := by
      unfold PCell.take
      rw [if_neg (fun h => by rw [h0] at h; cases h.1)]
      rfl
    unfold op2
    rw [e0]
    cases h1 : rightC b1 with
    | true =>
      have e1 : (⟨at_, 0, zeros64, max 0 (max (turnN b0 0) (turnN b0 56)), 0⟩ : PCell).take 1 b1 = ⟨at_, 0, b1, max (max 0 (max (turnN b0 0) (turnN b0 56))) (max (turnN b1 0) (turnN b1 56)), 0⟩ := by
        unfold PCell.take
        rw [if_pos ⟨h1, by show turnN zeros64 0 < _; rw [zeros_turn]; exact right_turn h1⟩]
      rw [e1]
      exact ⟨rfl, rfl, by simp, .inl ⟨rfl, (fun h => by cases h), rfl, rfl⟩⟩
    | false =>
      have e1 : (⟨at_, 0, zeros64, max 0 (max (turnN b0 0) (turnN b0 56)), 0⟩ : PCell).take 1 b1 = ⟨at_, 0, zeros64, max (max 0 (max (turnN b0 0) (turnN b0 56))) (max (turnN b1 0) (turnN b1 56)), 0⟩ := by
        unfold PCell.take
        rw [if_neg (fun h => by rw [h1] at h; cases h.1)]
      rw [e1]
      exact ⟨rfl, rfl, by simp, .inr (.inr ⟨rfl, rfl, rfl, rfl⟩)⟩
/-- It is opened as it is told by its two blocks. -/
theorem op2_of {at_ : Nat} {b0 b1 : List UInt8} (h1 : rightC b1 = true) (h0 : rightC b0 = true → turnN b0 0 < turnN b1 0) {g : Nat} (hg : max (max (turnN b0 0) (turnN b0 56)) (max (turnN b1 0) (turnN b1 56)) = g) : op2 at_ b0 b1 = ⟨at_, 0, b1, g, 0⟩ := by
  obtain ⟨e1, e2, e3, h | h | h⟩ := op2_cases at_ b0 b1
  · exact PCell.ext' e1 h.2.2.2 h.2.2.1 (e3.trans hg) e2
  · have := h0 h.1
    have := h.2.1 h1
    omega
  · rw [h1] at h; cases h.2.1
theorem op2_of0 {at_ : Nat} {b0 b1 : List UInt8} (h0 : rightC b0 = true) (h1 : rightC b1 = true → turnN b1 0 ≤ turnN b0 0) {g : Nat} (hg : max (max (turnN b0 0) (turnN b0 56)) (max (turnN b1 0) (turnN b1 56)) = g) : op2 at_ b0 b1 = ⟨at_, 1, b0, g, 0⟩ := by
  obtain ⟨e1, e2, e3, h | h | h⟩ := op2_cases at_ b0 b1
  · have := h1 h.1
    have := h.2.1 h0
    omega
  · exact PCell.ext' e1 h.2.2.2 h.2.2.1 (e3.trans hg) e2
  · rw [h0] at h; cases h.1
/-- What was set last is found again. -/
theorem op2_tell {at_ : Nat} {b0 b1 : List UInt8} {c : PCell} (hc : op2 at_ b0 b1 = c) {s : List UInt8} (hs : s.length ≤ 43) (hg : c.great + 1 < 18446744073709551616) :
    op2 at_ (if c.spare = 0 then layC (c.great + 1) s else b0) (if c.spare = 0 then b1 else layC (c.great + 1) s) = c.tell s := by
  obtain ⟨e1, e2, e3, hcs⟩ := op2_cases at_ b0 b1
  rw [hc] at e1 e2 e3 hcs
  have hw := layC_right (t := c.great + 1) hg (by omega) hs
  have hf := layC_first hg s
  have hl := layC_last hg hs
  have ht : c.tell s = ⟨at_, 1 - c.spare, layC (c.great + 1) s, c.great + 1, 0⟩ := by
    unfold PCell.tell
    exact PCell.ext' e1 rfl rfl rfl e2
  rw [ht]
  by_cases hsp : c.spare = 0
  · rw [if_pos hsp, if_pos hsp, hsp]
    exact op2_of0 hw (fun _ => by rw [hf]; omega) (by rw [hf, hl]; omega)
  · have h1 : c.spare = 1 := by rcases hcs with h | h | h <;> omega
    rw [if_neg hsp, if_neg hsp, h1]
    exact op2_of hw (fun _ => by rw [hf]; omega) (by rw [hf, hl]; omega)
/-- The block that is written anew is another one than it was. -/
theorem tell_ne {at_ : Nat} {b0 b1 : List UInt8} {c : PCell} (hc : op2 at_ b0 b1 = c) {s : List UInt8} (hg : c.great + 1 < 18446744073709551616) : layC (c.great + 1) s ≠ b0 ∧ layC (c.great + 1) s ≠ b1 := by
  obtain ⟨e1, e2, e3, -⟩ := op2_cases at_ b0 b1
  rw [hc] at e3
  have hf := layC_first hg s
  constructor
  · intro h
    rw [h] at hf
    omega
  · intro h
    rw [h] at hf
    omega
end Go.Proofs.Ytdllgmhipenidaa
