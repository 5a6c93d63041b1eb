/- The reference of layer 10: a number from one on, below another one (small). -/
import Derived.Test.YtcncgjiaefjmhaaRef10a
import Derived.Test.YtcncgjiaefjmhaaRefM1
namespace Go.Proofs.Ytcncgjiaefjmhaa
set_option maxRecDepth 100000
open Go.RowKit
set_option linter.unusedVariables false
set_option linter.unusedSimpArgs false

def smallS (E : Int) (B : List UInt8) (lo hi : Nat) : Int × List UInt8 × Nat :=
  if (readUint E B).1 = 0 ∧ ((readUint E B).2.2 < lo ∨ hi ≤ (readUint E B).2.2) then (11, (readUint E B).2.1, 0) else readUint E B
def STold (w : World) (B : List UInt8) (r : Int × List UInt8 × Nat) (e : Ending) (w' : World) : Prop :=
  ∃ B', e = .returned (.tuple #[refOf B' r.1, .int .i64 (r.2.2 : Nat)]) ∧ (r.1 = 0 → B' = r.2.1) ∧ B'.length ≤ B.length ∧ Mods Nil w w'
theorem readUint_zero (E : Int) (B : List UInt8) (h : (readUint E B).1 ≠ 0) : (readUint E B).2.2 = 0 := by
  unfold readUint at h ⊢
  split
  · rfl
  · rename_i h1
    rw [if_neg h1] at h
    split
    · rfl
    · rename_i h2; rw [if_neg h2] at h; simp at h
set_option maxHeartbeats 1600000 in
theorem r10small_any (w : World) (B : List UInt8) (E : Int) {lo hi : Nat} (hhi : hi ≤ 9223372036854775807) (hB : B.length ≤ 140737488355328) :
    Calls Try.prog 25 #[refOf B E, .int .u64 (lo : Int), .int .u64 (hi : Int)] w (STold w B (smallS E B lo hi)) := by
  have hR := fun W => rread_any W B E hB
  have hq := valOf_lt64 B E
  have hz := readUint_zero E B
  unfold smallS
  generalize readUint E B = R at hR hq hz
  obtain ⟨e1, ys, q⟩ := R
  simp only at hq hz ⊢
  have HR := Lib.hid hR
  clear hR
  unfold refOf
  by_cases he : e1 = 0
  · subst he
    by_cases hb : q < lo ∨ hi ≤ q
    · rw [if_pos ⟨rfl, hb⟩]
      by_cases h1 : q < lo
      · have g1 : decide ((q : Int) < (lo : Int)) = true := by simp; omega
        clear hz hb
        go_enter Try.func25, Try.ntmps25
        go_wp2_with fail
        refine (HR.out _).mono ?_
        rintro e w2 ⟨B2, he, hb2, hl2, m2⟩
        obtain rfl : B2 = ys := hb2 rfl
        unfold refOf at he
        simp only at he
        subst he
        have M2 := Lib.hid m2
        obtain ⟨bA, bB⟩ := two_boxes m2
        obtain ⟨a0, a1, a2, a3⟩ := bA.two
        obtain ⟨bA2, bB2⟩ := set_both bA bB (by omega) (.string (strOf B2)) (.int .i64 0)
        obtain ⟨bA3, bB3⟩ := set_second bA2 bB2 (by omega) (.int .i64 11)
        obtain ⟨d0, d1, d2, d3⟩ := bA3.two
        obtain ⟨f0, f1, f2, f3⟩ := bB3.two
        obtain ⟨c0, c1, c2, c3⟩ := bA2.two
        clear m2 bA bB bA2 bB2 bA3 bB3
        go_wp2_with fail
        exact bodyPost_ret (v := .tuple #[.agg #[.string (strOf B2), .int .i64 11], .int .i64 0]) (by simp [results, Try.results25, go_sem, f0, f1]) rfl ⟨B2, rfl, fun h => absurd h (by simp), hl2, ((((((((Mods.refl Nil w).alloc _).alloc _).trans M2.out).setNew (by simp) _).setNew (by simp) _).setNew (by simp) _).setNew (by simp) _).setNew (by simp) _⟩
      · have g1 : decide ((q : Int) < (lo : Int)) = false := by simp; omega
        have g2 : hi ≤ q := by omega
        have g3 : lo ≤ q := by omega
        have g4 : decide (q < lo) = false := by simp; omega
        have g5 : decide (hi ≤ q) = true := by simp; omega
        clear hz hb
        go_enter Try.func25, Try.ntmps25
        go_wp2_with fail
        refine (HR.out _).mono ?_
        rintro e w2 ⟨B2, he, hb2, hl2, m2⟩
        obtain rfl : B2 = ys := hb2 rfl
        unfold refOf at he
        simp only at he
        subst he
        have M2 := Lib.hid m2
        obtain ⟨bA, bB⟩ := two_boxes m2
        obtain ⟨a0, a1, a2, a3⟩ := bA.two
        obtain ⟨bA2, bB2⟩ := set_both bA bB (by omega) (.string (strOf B2)) (.int .i64 0)
        obtain ⟨bA3, bB3⟩ := set_second bA2 bB2 (by omega) (.int .i64 11)
        obtain ⟨d0, d1, d2, d3⟩ := bA3.two
        obtain ⟨f0, f1, f2, f3⟩ := bB3.two
        obtain ⟨c0, c1, c2, c3⟩ := bA2.two
        clear m2 bA bB bA2 bB2 bA3 bB3
        go_wp2_with fail
        exact bodyPost_ret (v := .tuple #[.agg #[.string (strOf B2), .int .i64 11], .int .i64 0]) (by simp [results, Try.results25, go_sem, f0, f1]) rfl ⟨B2, rfl, fun h => absurd h (by simp), hl2, ((((((((Mods.refl Nil w).alloc _).alloc _).trans M2.out).setNew (by simp) _).setNew (by simp) _).setNew (by simp) _).setNew (by simp) _).setNew (by simp) _⟩
    · rw [if_neg (fun h => hb h.2)]
      have g1 : decide ((q : Int) < (lo : Int)) = false := by simp; omega
      have g4 : decide (q < lo) = false := by simp; omega
      have g5 : decide (hi ≤ q) = false := by simp; omega
      have g6 : lo ≤ q := by omega
      have g7 : q < hi := by omega
      have g3 : IntKind.i64.wrap (q : Int) = (q : Int) := IntWalk.i64_in _ (by omega)
      clear hz hb
      go_enter Try.func25, Try.ntmps25
      go_wp2_with fail
      refine (HR.out _).mono ?_
      rintro e w2 ⟨B2, he, hb2, hl2, m2⟩
      obtain rfl : B2 = ys := hb2 rfl
      unfold refOf at he
      simp only at he
      subst he
      have M2 := Lib.hid m2
      obtain ⟨bA, bB⟩ := two_boxes m2
      obtain ⟨a0, a1, a2, a3⟩ := bA.two
      obtain ⟨bA2, bB2⟩ := set_both bA bB (by omega) (.string (strOf B2)) (.int .i64 0)
      obtain ⟨f0, f1, f2, f3⟩ := bB2.two
      obtain ⟨c0, c1, c2, c3⟩ := bA2.two
      clear m2 bA bB bA2 bB2
      go_wp2_with fail
      exact bodyPost_ret (v := .tuple #[.agg #[.string (strOf B2), .int .i64 0], .int .i64 (q : Int)]) (by simp [results, Try.results25, go_sem, f0, f1]) rfl ⟨B2, rfl, fun _ => rfl, hl2, (((((((Mods.refl Nil w).alloc _).alloc _).trans M2.out).setNew (by simp) _).setNew (by simp) _).setNew (by simp) _).setNew (by simp) _⟩
  · rw [if_neg (fun h => he h.1)]
    obtain rfl : q = 0 := hz he
    have g1 : (e1 == 0) = false := by rw [beq_eq_false_iff_ne]; exact he
    have g2 : (e1 != 0) = true := by rw [bne_iff_ne]; exact he
    go_enter Try.func25, Try.ntmps25
    go_wp2_with fail
    refine (HR.out _).mono ?_
    rintro e w2 ⟨B2, he2, hb2, hl2, m2⟩
    unfold refOf at he2
    simp only at he2
    subst he2
    have M2 := Lib.hid m2
    obtain ⟨bA, bB⟩ := two_boxes m2
    obtain ⟨a0, a1, a2, a3⟩ := bA.two
    obtain ⟨bA2, bB2⟩ := set_both bA bB (by omega) (.string (strOf B2)) (.int .i64 e1)
    obtain ⟨f0, f1, f2, f3⟩ := bB2.two
    obtain ⟨c0, c1, c2, c3⟩ := bA2.two
    clear m2 bA bB bA2 bB2
    go_wp2_with fail
    exact bodyPost_ret (v := .tuple #[.agg #[.string (strOf B2), .int .i64 e1], .int .i64 0]) (by simp [results, Try.results25, go_sem, f0, f1]) rfl ⟨B2, rfl, fun h => absurd h he, hl2, (((((((Mods.refl Nil w).alloc _).alloc _).trans M2.out).setNew (by simp) _).setNew (by simp) _).setNew (by simp) _).setNew (by simp) _⟩
end Go.Proofs.Ytcncgjiaefjmhaa
