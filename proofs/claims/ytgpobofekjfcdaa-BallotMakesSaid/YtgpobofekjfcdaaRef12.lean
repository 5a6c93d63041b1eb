/- The reference of layer 12: Make, Next. -/
import Derived.Test.YtgpobofekjfcdaaBal1
namespace Go.Proofs.Ytgpobofekjfcdaa
set_option maxRecDepth 100000
open Go.RowKit
set_option linter.unusedVariables false
set_option linter.unusedSimpArgs false

theorem r12make_any (w : World) {r : Nat} (hr : r < 18446744073709551616) {j : Int} : Calls Try.prog 9 #[.int .u64 (r : Int), .int .i64 j] w fun e w' => e = .returned (.tuple #[.int .u64 (bMakeN r j : Int), .int .i64 (bMakeE r j : Int)]) ∧ Mods Nil w w' := by
  by_cases hj : j < 0 ∨ 32 ≤ j
  · rw [(bMake_bad hj).1, (bMake_bad hj).2]
    by_cases h0 : j < 0
    · have h0d : decide (j < 0) = true := by simp; omega
      go_enter Try.func9, Try.ntmps9
      go_wp2
      go_ret2
      exact ⟨rfl, Mods.refl Nil w⟩
    · have h0d : decide (j < 0) = false := by simp; omega
      have h1d : decide ((31 : Int) < j) = true := by simp; omega
      go_enter Try.func9, Try.ntmps9
      go_wp2
      go_ret2
      exact ⟨rfl, Mods.refl Nil w⟩
  · obtain ⟨n, rfl⟩ : ∃ n : Nat, j = (n : Int) := ⟨j.toNat, by omega⟩
    have hn : n < 32 := by omega
    have h0d : decide ((n : Int) < 0) = false := by simp
    have h1d : decide ((31 : Int) < (n : Int)) = false := by simp; omega
    have h1n : decide (31 < n) = false := by simp; omega
    by_cases hr9 : 576460752303423488 ≤ r
    · rw [(bMake_worn hj hr9).1, (bMake_worn hj hr9).2]
      have h2d : decide ((576460752303423488 : Int) ≤ (r : Int)) = true := by simp; omega
      have h2n : decide (576460752303423488 ≤ r) = true := by simp; omega
      clear hj hr hr9 hn
      go_enter Try.func9, Try.ntmps9
      go_wp2
      go_ret2
      exact ⟨rfl, Mods.refl Nil w⟩
    · rw [(bMake_ok hj hr9).1, (bMake_ok hj hr9).2]
      have h2d : decide ((576460752303423488 : Int) ≤ (r : Int)) = false := by simp; omega
      have h2n : decide (576460752303423488 ≤ r) = false := by simp; omega
      clear hj
      go_enter Try.func9, Try.ntmps9
      go_wp2
      go_ret2
      exact ⟨rfl, Mods.refl Nil w⟩

set_option maxHeartbeats 1600000 in
theorem r12next_any (w : World) {b : Nat} (hb : b < 18446744073709551616) {j : Int} : Calls Try.prog 11 #[.int .u64 (b : Int), .int .i64 j] w fun e w' => e = .returned (.tuple #[.int .u64 (bMakeN (bUp b j) j : Int), .int .i64 (bMakeE (bUp b j) j : Int)]) ∧ Mods Nil w w' := by
  by_cases hj : j < 0 ∨ 32 ≤ j
  · rw [(bMake_bad hj).1, (bMake_bad hj).2]
    by_cases h0 : j < 0
    · have h0d : decide (j < 0) = true := by simp; omega
      go_enter Try.func11, Try.ntmps11
      go_wp2
      go_ret2
      exact ⟨rfl, Mods.refl Nil w⟩
    · have h0d : decide (j < 0) = false := by simp; omega
      have h1d : decide ((31 : Int) < j) = true := by simp; omega
      go_enter Try.func11, Try.ntmps11
      go_wp2
      go_ret2
      exact ⟨rfl, Mods.refl Nil w⟩
  · obtain ⟨n, rfl⟩ : ∃ n : Nat, j = (n : Int) := ⟨j.toNat, by omega⟩
    have hn : n < 32 := by omega
    have h0d : decide ((n : Int) < 0) = false := by simp
    have h1d : decide ((31 : Int) < (n : Int)) = false := by simp; omega
    have h1n : decide (31 < n) = false := by simp; omega
    obtain ⟨u, hu⟩ : ∃ u, bUp b (n : Int) = u := ⟨_, rfl⟩
    rw [hu]
    unfold bUp at hu
    have HU : Hid (b < 32 * u + n ∧ 32 * u + n ≤ b + 32) := Lib.hid (by split at hu <;> omega)
    have HN := Lib.hid hn
    have HB := Lib.hid hb
    obtain ⟨X, hX⟩ : ∃ X, bMakeN u (n : Int) = X := ⟨_, rfl⟩
    obtain ⟨Y, hY⟩ : ∃ Y, bMakeE u (n : Int) = Y := ⟨_, rfl⟩
    have HX : Hid ((576460752303423488 ≤ u → X = 0 ∧ Y = 37) ∧ (u < 576460752303423488 → X = 32 * u + n ∧ Y = 0)) := Lib.hid ⟨fun h1 => by have := bMake_worn (r := u) hj h1; omega, fun h1 => by have := bMake_ok (r := u) hj (by omega); omega⟩
    rw [hX, hY]
    clear hX hY
    clear hu hn hj hb
    go_enter Try.func11, Try.ntmps11
    go_wp2
    go_loopw [0, 6] (fun v x wr => ∃ (i k : Nat), i ≤ 32 ∧ x = .int .i64 (i : Int) ∧ k = b + i ∧ v = .int .u64 (k : Int) ∧ k < 32 * u + n ∧ k < 18446744073709551616 ∧ wr = w) (fun _ x _ => 32 - (intOf x).toNat)
    case atStart => exact ⟨0, b, by omega, rfl, rfl, rfl, HU.out.1, HB.out, rfl⟩
    case round =>
      obtain ⟨i, k, hi, rfl, hk, rfl, hlt, hk64, rfl⟩ := hrel
      have HK := Lib.hid hk
      have HL := Lib.hid hlt
      clear hk hlt
      by_cases h32 : i < 32
      · by_cases hmax : k = 18446744073709551615
        · subst hmax
          obtain ⟨rfl, rfl⟩ := HX.out.1 (by have := HL.out; have := HN.out; omega)
          go_wp2
          go_ret2
          exact ⟨rfl, Mods.refl Nil wr⟩
        · have hmd : ((k : Int) == 18446744073709551615) = false := by rw [beq_eq_false_iff_ne]; omega
          have hmn : (k == 18446744073709551615) = false := by rw [beq_eq_false_iff_ne]; omega
          obtain ⟨k1, hk1⟩ : ∃ k1, k + 1 = k1 := ⟨_, rfl⟩
          have hw : IntKind.u64.wrap ((k : Int) + 1) = (k1 : Int) := by rw [IntKind.wrap_u64]; omega
          by_cases hr : k1 % 32 = n
          · have hrd : ((k1 : Int) % 32) = (n : Int) := by omega
            have hkt : k1 = 32 * u + n := by have := HL.out; have := HU.out; have := HN.out; have := HK.out; omega
            obtain ⟨hXk, rfl⟩ := HX.out.2 (by have := HN.out; omega)
            obtain rfl : X = k1 := by omega
            clear hr hk1 hmax hkt hXk HX
            go_wp2
            go_ret2
            exact ⟨rfl, Mods.refl Nil wr⟩
          · obtain ⟨m, hm⟩ : ∃ m : Nat, k1 % 32 = m := ⟨_, rfl⟩
            have hrd : ((k1 : Int) % 32) = (m : Int) := by omega
            have hne : ((m : Int) == (n : Int)) = false := by rw [beq_eq_false_iff_ne]; omega
            have hnen : (m == n) = false := by rw [beq_eq_false_iff_ne]; omega
            have HF := Lib.hid (show k1 < 32 * u + n ∧ k1 = b + (i + 1) ∧ k1 < 18446744073709551616 by have := HL.out; have := HN.out; have := HK.out; omega)
            clear hr hm hk1 hmax
            go_wp2
            exact ⟨⟨i + 1, k1, by omega, by go_num, HF.out.2.1, rfl, HF.out.1, HF.out.2.2, trivial⟩, by simp [intOf]; omega⟩
      · exfalso
        have := HL.out; have := HK.out; have := HU.out
        omega
end Go.Proofs.Ytgpobofekjfcdaa
