/- Package nums: the writer's width. -/
import Derived.Test.YtncmmiecfkfcgaaNums4
import Derived.Deep.RegionLaw
namespace Go.Proofs.Ytncmmiecfkfcgaa
open Go.RowKit

def digs (x : Nat) : List UInt8 := if x = 0 then [] else digs (x / 256) ++ [UInt8.ofNat (x % 256)]
termination_by x
decreasing_by omega
theorem digs_zero : digs 0 = [] := by rw [digs, if_pos rfl]
theorem digs_pos {x : Nat} (h : x ≠ 0) : digs x = digs (x / 256) ++ [UInt8.ofNat (x % 256)] := by rw [digs, if_neg h]
theorem digs_len : ∀ (k x : Nat), x < 256 ^ k → (k ≠ 0 → 256 ^ (k - 1) ≤ x) → (digs x).length = k := by
  intro k
  induction k with
  | zero => intro x h _; obtain rfl : x = 0 := by simpa using h
            rw [digs_zero]; rfl
  | succ k ih =>
    intro x h h2
    have h3 := h2 (by omega)
    simp only [Nat.add_sub_cancel] at h3
    have hp : 0 < 256 ^ k := Nat.pow_pos (by omega)
    rw [digs_pos (by omega), List.length_append, ih (x / 256)]
    · rfl
    · rw [Nat.pow_succ] at h; omega
    · intro hk
      obtain ⟨m, rfl⟩ : ∃ m, k = m + 1 := ⟨k - 1, by omega⟩
      rw [Nat.pow_succ] at h3
      simp only [Nat.add_sub_cancel]
      omega
/-- The first j digits. -/
theorem digs_get : ∀ (k x : Nat), x < 256 ^ k → (k ≠ 0 → 256 ^ (k - 1) ≤ x) → ∀ j (hj : j < (digs x).length), (digs x)[j] = UInt8.ofNat (x / 256 ^ (k - 1 - j) % 256) := by
  intro k
  induction k with
  | zero => intro x h _ j hj; obtain rfl : x = 0 := by simpa using h
            rw [digs_zero] at hj; simp at hj
  | succ k ih =>
    intro x h h2 j hj
    have h3 := h2 (by omega)
    have hlen := digs_len (k + 1) x h h2
    simp only [Nat.add_sub_cancel] at h3 ⊢
    have hp : 0 < 256 ^ k := Nat.pow_pos (by omega)
    have hx : x ≠ 0 := by omega
    have e := digs_pos hx
    have g1 : x / 256 < 256 ^ k := by rw [Nat.pow_succ] at h; omega
    have g2 : k ≠ 0 → 256 ^ (k - 1) ≤ x / 256 := by
      intro hk
      obtain ⟨m, rfl⟩ : ∃ m, k = m + 1 := ⟨k - 1, by omega⟩
      rw [Nat.pow_succ] at h3
      simp only [Nat.add_sub_cancel]
      omega
    have hl2 := digs_len k (x / 256) g1 g2
    simp only [e]
    by_cases hjk : j < k
    · rw [List.getElem_append_left (by omega), ih (x / 256) g1 g2 j (by omega)]
      congr 2
      rw [Nat.div_div_eq_div_mul]
      congr 1
      rw [← Nat.pow_succ']
      congr 1
      omega
    · have : j = k := by omega
      subst this
      rw [List.getElem_append_right (by omega)]
      simp [hl2]

theorem width_any (x : Nat) (hx : x < 18446744073709551616) (w : World) :
    Calls Try.prog 36 #[.int .u64 x] w fun e w' => e = .returned (.int .i64 ((digs x).length : Nat)) ∧ w = w' := by
  go_enter Try.func36, Try.ntmps36
  go_wp2
  go_step3
  go_wp2
  go_step3
  go_wp2
  go_loop [3, 4] (fun n s => ∃ (k : Nat) (q : Int), k ≤ 8 ∧ x < 256 ^ k ∧ q = 8 * (k : Int) - 8 ∧ n = .int .i64 k ∧ s = .int .i64 q) (fun n _ => (intOf n).toNat)
  case atStart => exact ⟨8, 56, by omega, by have : (256 : Nat) ^ 8 = 18446744073709551616 := rfl; omega, by omega, rfl, rfl⟩
  case round =>
    obtain ⟨k, q, hk, hxk, hq, rfl, rfl⟩ := hrel
    by_cases h0 : k = 0
    · subst h0
      obtain rfl : q = -8 := by omega
      have hx0 : x = 0 := by simpa using hxk
      have hfin : (digs x).length = 0 := by rw [hx0, digs_zero]; rfl
      have HF := Lib.hid hfin
      clear hx hxk hx0 hfin hq
      go_wp2
      go_ret
      exact ⟨by rw [HF.out]; rfl, rfl⟩
    · obtain ⟨m, rfl⟩ : ∃ m, k = m + 1 := ⟨k - 1, by omega⟩
      obtain rfl : q = ((8 * m : Nat) : Int) := by omega
      clear hq h0
      have hs0 : (0 : Int) ≤ ((8 * m : Nat) : Int) := by omega
      have hs1 : ((8 * m : Nat) : Int) < 64 := by omega
      have key : ((x : Int) / 2 ^ (8 * m) % 256) = ((x / 256 ^ m : Nat) : Int) := by
        have e1 : (2 : Int) ^ (8 * m) = ((256 ^ m : Nat) : Int) := by rw [Int.pow_mul]; simp
        have e2 : x / 256 ^ m < 256 := by rw [Nat.pow_succ] at hxk; exact Nat.div_lt_of_lt_mul hxk
        rw [e1, ← Int.natCast_ediv]
        generalize x / 256 ^ m = z at e2
        omega
      have hp : 0 < 256 ^ m := Nat.pow_pos (by omega)
      by_cases hb : x < 256 ^ m
      · have h1 : ((x : Int) / 2 ^ (8 * m) % 256 == 0) = true := by rw [key, Nat.div_eq_of_lt hb]; rfl
        clear key hx hp
        go_wp2
        exact ⟨⟨m, 8 * (m : Int) - 8, by omega, hb, rfl, rfl, rfl⟩, by simp [intOf]⟩
      · have h1 : ((x : Int) / 2 ^ (8 * m) % 256 == 0) = false := by
          rw [key, beq_eq_false_iff_ne]
          have := Nat.div_pos (Nat.le_of_not_lt hb) hp
          omega
        have hfin := digs_len (m + 1) x hxk (fun _ => by simpa using Nat.le_of_not_lt hb)
        have HF := Lib.hid hfin
        clear key hx hp hfin
        go_wp2
        go_ret
        exact ⟨by rw [HF.out]; rfl, rfl⟩
end Go.Proofs.Ytncmmiecfkfcgaa
