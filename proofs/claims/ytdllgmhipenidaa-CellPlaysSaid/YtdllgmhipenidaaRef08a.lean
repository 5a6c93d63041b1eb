/- The reference of layer 8: number, eight. -/
import Derived.Test.YtdllgmhipenidaaCel3
import Derived.Test.YtdllgmhipenidaaRefM2
import Derived.Test.YtdllgmhipenidaaRef07a
import Derived.Deep.DeepCutAuto
namespace Go.Proofs.Ytdllgmhipenidaa
set_option maxRecDepth 100000
open Go.RowKit
set_option linter.unusedVariables false

theorem turnN_take (b : List UInt8) : turnN b 0 = num8 (b.take 8) := by unfold turnN; rw [List.drop_zero]
set_option maxHeartbeats 3200000 in
theorem r8number_any (w : World) {xs : List UInt8} {n : Nat} (hn : xs.length = n) (h8 : 8 ≤ n) : Calls Try.prog 94 #[.string (strOf xs)] w fun e w' => e = .returned (.int .u64 (turnN xs 0 : Nat)) ∧ Mods Nil w w' := by
  have HN := Lib.hid hn
  have hsz : (strOf xs).size = n := by simp [hn]
  clear hn
  go_enter Try.func94, Try.ntmps94
  go_wp2_with fail
  go_loopw [3, 4] (fun a k wr => ∃ (i : Nat), i ≤ 8 ∧ k = .int .i64 (i : Int) ∧ a = .int .u64 (num8 (xs.take i) : Int) ∧ wr = w) (fun _ k _ => 8 - (intOf k).toNat)
  case atStart => exact ⟨0, Nat.zero_le _, rfl, rfl, rfl⟩
  case round =>
    obtain ⟨i, hi, rfl, rfl, rfl⟩ := hrel
    by_cases hlt : i < 8
    · have hltI : (i : Int) < 8 := by omega
      have hltN : (i : Int) < (n : Int) := by omega
      have hil : i < xs.length := by rw [HN.out]; omega
      have hix := fun W => index_strOf W xs i hil
      have hs := num8_take xs i hil
      have hg : xs.getD i 0 = xs[i] := by simp [List.getD_eq_getElem?_getD, hil]
      rw [hg] at hs
      have hb := (xs[i]).toNat_lt
      have hv : num8 (xs.take i) * 256 + (xs[i]).toNat < 18446744073709551616 := by
        rw [← hs]
        have h1 := num8_lt (xs.take (i + 1))
        have h2 : 256 ^ (xs.take (i + 1)).length ≤ 256 ^ 8 := Nat.pow_le_pow_right (by omega) (by rw [List.length_take]; omega)
        have h3 : (256 : Nat) ^ 8 = 18446744073709551616 := by rfl
        omega
      obtain ⟨y, hy⟩ : ∃ y, (xs[i]).toNat = y := ⟨_, rfl⟩
      obtain ⟨z, hz⟩ : ∃ z, num8 (xs.take i) = z := ⟨_, rfl⟩
      obtain ⟨q, hq⟩ : ∃ q, num8 (xs.take (i + 1)) = q := ⟨_, rfl⟩
      rw [hq, hy, hz] at hs
      rw [hy, hz] at hv
      rw [hy] at hix hb
      have hw1 : IntKind.u64.wrap ((z : Int) * 256) = (z : Int) * 256 := by rw [IntKind.wrap_u64]; omega
      have hw2 : IntKind.u64.wrap (y : Int) = (y : Int) := by rw [IntKind.wrap_u64]; omega
      have hw3 : IntKind.u64.wrap ((z : Int) * 256 + (y : Int)) = (q : Int) := by rw [IntKind.wrap_u64]; omega
      rw [hz]
      have HQ := Lib.hid hq
      clear hs hb hv hy hz hq hg hil
      go_wp2_with fail
      exact ⟨⟨i + 1, by omega, by go_num, by rw [HQ.out], trivial⟩, by simp [intOf]; omega⟩
    · obtain rfl : i = 8 := by omega
      go_wp2_with fail
      go_ret
      rw [turnN_take]
      exact ⟨rfl, Mods.refl _ _⟩
theorem eight_four {x : Nat} (h : x < 18446744073709551616) : fourOf (x / 4294967296) ++ fourOf (x % 4294967296) = eight x := by
  simp only [eight, fourOf, List.cons_append, List.nil_append, List.cons.injEq, and_true]
  refine ⟨?_, ?_, ?_, ?_, ?_, ?_, ?_, ?_⟩ <;> first | trivial | (refine UInt8.toNat_inj.1 ?_; simp only [UInt8.toNat_ofNat']; omega)
theorem r8eight_any (w : World) {x : Nat} (h : x < 18446744073709551616) : Calls Try.prog 99 #[.int .u64 (x : Int)] w fun e w' => e = .returned (.string (strOf (eight x))) ∧ Mods Nil w w' := by
  obtain ⟨a, ha⟩ : ∃ a, x / 4294967296 = a := ⟨_, rfl⟩
  obtain ⟨b, hb⟩ : ∃ b, x % 4294967296 = b := ⟨_, rfl⟩
  have he := eight_four h
  rw [ha, hb] at he
  have ha4 : a < 4294967296 := by omega
  have hb4 : b < 4294967296 := by omega
  have haI : Int.tdiv (x : Int) 4294967296 = (a : Int) := by rw [Int.tdiv_eq_ediv_of_nonneg (by omega)]; omega
  have hbI : Int.tmod (x : Int) 4294967296 = (b : Int) := by rw [Int.tmod_eq_emod_of_nonneg (by omega)]; omega
  have haD : (x : Int) / 4294967296 = (a : Int) := by omega
  have hbD : (x : Int) % 4294967296 = (b : Int) := by omega
  have hw1 : IntKind.u64.wrap (a : Int) = (a : Int) := by rw [IntKind.wrap_u64]; omega
  have hw2 : IntKind.u64.wrap (b : Int) = (b : Int) := by rw [IntKind.wrap_u64]; omega
  have hw3 : IntKind.u32.wrap (a : Int) = (a : Int) := by rw [IntKind.wrap_u32]; omega
  have hw4 : IntKind.u32.wrap (b : Int) = (b : Int) := by rw [IntKind.wrap_u32]; omega
  have hadd := fun W => string_add Try.prog (fourOf a) (fourOf b) (by simp [fourOf]) W
  rw [he] at hadd
  have HA := Lib.hid (fun W => rfour_any W a ha4)
  have HB := Lib.hid (fun W => rfour_any W b hb4)
  clear h ha hb he ha4 hb4
  go_enter Try.func99, Try.ntmps99
  go_wp2_with (first
    | (go_at_call 77; with_reducible refine (HA.out _).mono ?_; rintro e w1 ⟨rfl, m1⟩; have M1 := Lib.hid m1; clear m1)
    | (go_at_call 77; with_reducible refine (HB.out _).mono ?_; rintro e w2 ⟨rfl, m2⟩; have M2 := Lib.hid (M1.out.trans m2); clear m2))
  go_ret
  exact ⟨rfl, M2.out⟩
end Go.Proofs.Ytdllgmhipenidaa
