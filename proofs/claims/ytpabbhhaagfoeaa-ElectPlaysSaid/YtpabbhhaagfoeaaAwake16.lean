/- What the statements of layer 16 begin with: the document's example; an Elect between calls. -/
import Derived.Test.YtpabbhhaagfoeaaElc1
import Derived.Deep.QuietTactic
import Derived.BigQuiet
namespace Go.Proofs.Ytpabbhhaagfoeaa
set_option maxRecDepth 100000
open Go.RowKit
set_option linter.unusedVariables false
set_option linter.unusedSimpArgs false

/-- An Elect of this call's own. -/
structure ES (W0 W : World) (b turn left top : Nat) : Prop where
  m : Mods Nil W0 W
  far : W0.heap.size ≤ b
  a : EA W b turn left top

theorem ES.nil {W0 W V : World} {b turn left top : Nat} (h : ES W0 W b turn left top) (k : Mods Nil W V) : ES W0 V b turn left top := ⟨h.m.trans k, h.far, h.a.mods k (fun h => h)⟩
theorem ES.own {W0 W V : World} {b turn left top left' top' : Nat} (h : ES W0 W b turn left top) (k : Mods (EN b) W V) (a : EA V b turn left' top') : ES W0 V b turn left' top' :=
  ⟨h.m.trans2 k (fun i hi hT => absurd hi (by have := h.far; unfold EN at hT; omega)), h.far, a⟩
theorem ES.other {W0 W V : World} {b b' turn left top t' l' p' : Nat} (h : ES W0 W b turn left top) (h' : ES W0 V b' t' l' p') (hne : b ≠ b') (k : Mods (EN b') W V) : ES W0 V b turn left top := ⟨h'.m, h.far, h.a.mods k hne⟩

section calls
variable {W0 W : World} {b turn left top : Nat} (h : ES W0 W b turn left top)
include h
theorem ES.tick (hk : EOk turn left) : Calls Try.prog 31 #[.pointer (some ⟨b, 0, none⟩)] W fun e V => e = .returned (.bool (decide (left ≤ 1))) ∧ ES W0 V b turn (eLeft turn left) top ∧ Mods (EN b) W V :=
  (etick_any W h.a hk).mono fun e V ⟨h1, h2, h3⟩ => ⟨h1, h.own h3 h2, h3⟩
theorem ES.top_ : Calls Try.prog 36 #[.pointer (some ⟨b, 0, none⟩)] W fun e V => e = .returned (.int .u64 (top : Int)) ∧ ES W0 V b turn left top ∧ Mods Nil W V :=
  (etop_any W h.a).mono fun e V ⟨h1, h2⟩ => ⟨h1, h.nil h2, h2⟩
theorem ES.left_ : Calls Try.prog 35 #[.pointer (some ⟨b, 0, none⟩)] W fun e V => e = .returned (.int .i64 (left : Int)) ∧ ES W0 V b turn left top ∧ Mods Nil W V :=
  (eleft_any W h.a).mono fun e V ⟨h1, h2⟩ => ⟨h1, h.nil h2, h2⟩
theorem ES.low {x : Nat} (hx : x < top) : Calls Try.prog 33 #[.pointer (some ⟨b, 0, none⟩), .int .u64 (x : Int)] W fun e V => e = .returned (.bool false) ∧ ES W0 V b turn left top ∧ Mods Nil W V :=
  (eheard_low W h.a hx).mono fun e V ⟨h1, h2⟩ => ⟨h1, h.nil h2, h2⟩
theorem ES.heard {x : Nat} (hx : top ≤ x) : Calls Try.prog 33 #[.pointer (some ⟨b, 0, none⟩), .int .u64 (x : Int)] W fun e V => e = .returned (.bool true) ∧ ES W0 V b turn turn x ∧ Mods (EN b) W V :=
  (eheard_ok W h.a hx).mono fun e V ⟨h1, h2, h3⟩ => ⟨h1, h.own h3 h2, h3⟩
end calls

theorem es_new {W0 W : World} (hm : Mods Nil W0 W) {n p : Nat} (hn : n ≤ 31) (hp : 1 ≤ p) (hp' : p ≤ 1000) : Calls Try.prog 29 #[.int .i64 (n : Int), .int .i64 (p : Int)] W fun e V => ∃ b, e = .returned (.tuple #[.pointer (some ⟨b, 0, none⟩), .int .i64 0]) ∧ ES W0 V b (p * (n + 1)) (p * (n + 1)) 0 ∧ W.heap.size ≤ b ∧ Mods Nil W V :=
  (enew_ok W hn hp hp').mono fun e V ⟨b, h1, h2, h3, h4⟩ => ⟨b, h1, ⟨hm.trans h4, Nat.le_trans hm.size h3, h2⟩, h3, h4⟩

/-- What the example's loop has behind i ticks. -/
def aLeft (i : Nat) : Nat := if i ≤ 5 then 6 - i else 6
def aSum (i : Nat) : Nat := if i ≤ 5 then 0 else 5

theorem awake16_any (w : World) : Calls Try.prog 28 #[] w fun e w' => e = .returned (.bool true) ∧ Mods Nil w w' := by
  have HN : Hid (Calls Try.prog 29 #[.int .i64 1, .int .i64 3] w fun e V => ∃ b, e = .returned (.tuple #[.pointer (some ⟨b, 0, none⟩), .int .i64 0]) ∧ ES w V b 6 6 0 ∧ w.heap.size ≤ b ∧ Mods Nil w V) := Lib.hid (es_new (Mods.refl Nil w) (n := 1) (p := 3) (by omega) (by omega) (by omega))
  go_enter Try.func28, Try.ntmps28
  go_wp2_with (go_at_call 29; refine (HN.out).mono ?_; rintro e w1 ⟨b, rfl, s1, _, _⟩; have S1 := Lib.hid s1; clear s1)
  go_loopw [3, 4] (fun x y wr => ∃ i : Nat, x = .int .i64 ((aSum i : Nat) : Int) ∧ y = .int .i64 (i : Int) ∧ i ≤ 6 ∧ ES w wr b 6 (aLeft i) 0) (fun _ y _ => 6 - (intOf y).toNat)
  case atStart => exact ⟨0, rfl, rfl, by omega, S1.out⟩
  case round =>
    obtain ⟨i, rfl, rfl, hi, hs⟩ := hrel
    have S := Lib.hid hs
    clear hs S1 HN
    by_cases hgo : i < 6
    · have hgI : decide ((i : Int) < 6) = true := by simp; omega
      have hgN : decide (i < 6) = true := by simp; omega
      have hok : EOk 6 (aLeft i) := by unfold EOk aLeft; split <;> omega
      have hnx : eLeft 6 (aLeft i) = aLeft (i + 1) := by unfold eLeft aLeft; split <;> split <;> split <;> omega
      by_cases h5 : i = 5
      · subst h5
        have hd : decide (aLeft 5 ≤ 1) = true := by decide
        have HT : Hid (Calls Try.prog 31 #[.pointer (some ⟨b, 0, none⟩)] wr fun e V => e = .returned (.bool true) ∧ ES w V b 6 (aLeft 6) 0 ∧ Mods (EN b) wr V) := Lib.hid (by have h := S.out.tick hok; rw [hnx, hd] at h; exact h)
        have e5 : (aSum 5 : Nat) = 0 := rfl
        rw [e5]
        clear hok hnx hd e5 hi hgo hgI hgN
        go_wp2_with (go_at_call 31; refine (HT.out).mono ?_; rintro e w2 ⟨rfl, s2, _⟩; have S2 := Lib.hid s2; clear s2)
        exact ⟨⟨6, rfl, rfl, by omega, S2.out⟩, by simp [intOf]⟩
      · have hd : decide (aLeft i ≤ 1) = false := by unfold aLeft; rw [if_pos (by omega)]; simp; omega
        have HT : Hid (Calls Try.prog 31 #[.pointer (some ⟨b, 0, none⟩)] wr fun e V => e = .returned (.bool false) ∧ ES w V b 6 (aLeft (i + 1)) 0 ∧ Mods (EN b) wr V) := Lib.hid (by have h := S.out.tick hok; rw [hnx, hd] at h; exact h)
        have e5 : (aSum i : Nat) = 0 := by unfold aSum; rw [if_pos (by omega)]
        have e6 : Hid ((aSum (i + 1) : Nat) = 0) := Lib.hid (by unfold aSum; rw [if_pos (by omega)])
        rw [e5]
        clear hok hnx hd e5
        go_wp2_with (go_at_call 31; refine (HT.out).mono ?_; rintro e w2 ⟨rfl, s2, _⟩; have S2 := Lib.hid s2; clear s2)
        exact ⟨⟨i + 1, by rw [e6.out]; rfl, by go_num, by omega, S2.out⟩, by simp [intOf]; omega⟩
    · obtain rfl : i = 6 := by omega
      have e6 : aSum 6 = 5 := rfl
      have hl : aLeft 6 = 6 := rfl
      rw [hl] at S
      rw [e6]
      clear hgo hi e6 hl
      go_wp2_with (first
        | (go_at_call 33; have hx := S4.out; clear hx; refine (S4.out.low (x := 3) (by omega)).mono ?_; rintro e w5 ⟨rfl, s5, _⟩; have S5 := Lib.hid s5; clear s5 S4)
        | (go_at_call 36; refine (S3.out.top_).mono ?_; rintro e w4 ⟨rfl, s4, _⟩; have S4 := Lib.hid s4; clear s4 S3)
        | (go_at_call 33; refine (S2.out.heard (x := 4) (by omega)).mono ?_; rintro e w3 ⟨rfl, s3, _⟩; have S3 := Lib.hid s3; clear s3 S2)
        | (go_at_call 35; refine (S.out.left_).mono ?_; rintro e w2 ⟨rfl, s2, _⟩; have S2 := Lib.hid s2; clear s2 S))
      go_ret
      exact ⟨rfl, S5.out.m⟩
end Go.Proofs.Ytpabbhhaagfoeaa
