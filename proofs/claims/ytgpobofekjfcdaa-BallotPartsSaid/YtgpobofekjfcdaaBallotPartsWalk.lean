/- BallotParts' walk. -/
import Derived.Test.YtgpobofekjfcdaaAwake12
import Derived.Test.YtgpobofekjfcdaaOpen
namespace Go.Proofs.Ytgpobofekjfcdaa
set_option maxRecDepth 100000
open Go.RowKit
set_option linter.unusedVariables false
set_option linter.unusedSimpArgs false

theorem ballot_parts {b : Nat} (hb : b < 18446744073709551616) : bMakeN (b / 32) ((b % 32 : Nat) : Int) = b ∧ bMakeE (b / 32) ((b % 32 : Nat) : Int) = 0 := by
  have h := bMake_ok (r := b / 32) (j := ((b % 32 : Nat) : Int)) (by omega) (by omega)
  rw [h.1, h.2]
  exact ⟨by omega, rfl⟩

set_option maxHeartbeats 1600000 in
theorem ballotParts_walk (w : World) {bi : Int} (wb : (Lit.int .u64 bi).wf = true) {ci : Int} (wc : (Lit.int .u64 ci).wf = true) :
    Calls Try.prog 6 #[.int .u64 bi, .int .u64 ci] w fun e w' => e = .returned (.bool true) ∧ Mods Nil w w' := by
  have hb0 := u64_of_wf wb
  have hc0 := u64_of_wf wc
  obtain ⟨b, rfl⟩ : ∃ b : Nat, bi = (b : Int) := ⟨bi.toNat, by omega⟩
  obtain ⟨c, rfl⟩ : ∃ c : Nat, ci = (c : Int) := ⟨ci.toNat, by omega⟩
  have hb : b < 18446744073709551616 := by omega
  have hc : c < 18446744073709551616 := by omega
  clear wc wb hc0 hb0
  have HP := ballot_parts hb
  obtain ⟨k, hk⟩ : ∃ k, b / 32 = k := ⟨_, rfl⟩
  obtain ⟨n, hn⟩ : ∃ n, b % 32 = n := ⟨_, rfl⟩
  obtain ⟨l, hl⟩ : ∃ k, c / 32 = k := ⟨_, rfl⟩
  obtain ⟨m, hm⟩ : ∃ n, c % 32 = n := ⟨_, rfl⟩
  rw [hk, hn] at HP
  have HM : Hid (∀ V, Calls Try.prog 8 #[.int .u64 (k : Int), .int .i64 (n : Int)] V fun e w' => e = .returned (.tuple #[.int .u64 (b : Int), .int .i64 0]) ∧ Mods Nil V w') := Lib.hid (fun V => by have h := bmake_any V (r := k) (j := (n : Int)) (by omega); rw [HP.1, HP.2] at h; exact h)
  have HR : Hid (∀ V, Calls Try.prog 12 #[.int .u64 (b : Int)] V fun e w' => e = .returned (.int .u64 (k : Int)) ∧ Mods Nil V w') := Lib.hid (fun V => by rw [← hk]; exact bround_any V hb)
  have HN : Hid (∀ V, Calls Try.prog 13 #[.int .u64 (b : Int)] V fun e w' => e = .returned (.int .i64 (n : Int)) ∧ Mods Nil V w') := Lib.hid (fun V => by rw [← hn]; exact bnode_any V hb)
  have HR2 : Hid (∀ V, Calls Try.prog 12 #[.int .u64 (c : Int)] V fun e w' => e = .returned (.int .u64 (l : Int)) ∧ Mods Nil V w') := Lib.hid (fun V => by rw [← hl]; exact bround_any V hc)
  have HN2 : Hid (∀ V, Calls Try.prog 13 #[.int .u64 (c : Int)] V fun e w' => e = .returned (.int .i64 (m : Int)) ∧ Mods Nil V w') := Lib.hid (fun V => by rw [← hm]; exact bnode_any V hc)
  have h3 : k = l → n = m → b = c := by omega
  by_cases hkl : k = l
  · have hklb : ((k : Int) == (l : Int)) = true := by rw [beq_iff_eq]; omega
    by_cases hnm : n = m
    · obtain rfl := h3 hkl hnm
      subst hkl
      subst hnm
      clear HP hk hn hl hm hb hc h3 hklb
      go_enter Try.func6, Try.ntmps6
      go_wp2_with (first
        | (go_at_call 7; refine (awake12_any _).mono ?_; rintro e w1 ⟨rfl, m1⟩; have M1 := Lib.hid m1; clear m1)
        | (go_at_call 13; have hx := M6.out; clear hx; refine (HN.out _).mono ?_; rintro e w7 ⟨rfl, m7⟩; have M7 := Lib.hid (M6.out.trans m7); clear m7)
        | (go_at_call 13; have hx := M5.out; clear hx; refine (HN.out _).mono ?_; rintro e w6 ⟨rfl, m6⟩; have M6 := Lib.hid (M5.out.trans m6); clear m6)
        | (go_at_call 12; have hx := M4a.out; clear hx; refine (HR.out _).mono ?_; rintro e w5 ⟨rfl, m5⟩; have M5 := Lib.hid (M4a.out.trans m5); clear m5)
        | (go_at_call 12; have hx := M4.out; clear hx; refine (HR.out _).mono ?_; rintro e w5 ⟨rfl, m5⟩; have M4a := Lib.hid (M4.out.trans m5); clear m5)
        | (go_at_call 8; refine (HM.out _).mono ?_; rintro e w4 ⟨rfl, m4⟩; have M4 := Lib.hid (M3.out.trans m4); clear m4)
        | (go_at_call 13; refine (HN.out _).mono ?_; rintro e w3 ⟨rfl, m3⟩; have M3 := Lib.hid (M2.out.trans m3); clear m3)
        | (go_at_call 12; refine (HR.out _).mono ?_; rintro e w2 ⟨rfl, m2⟩; have M2 := Lib.hid (M1.out.trans m2); clear m2))
      go_ret
      exact ⟨rfl, M7.out⟩
    · have hnmb : ((n : Int) == (m : Int)) = false := by rw [beq_eq_false_iff_ne]; omega
      have hnmN : (n == m) = false := by rw [beq_eq_false_iff_ne]; omega
      have hbc : ((b : Int) == (c : Int)) = false := by rw [beq_eq_false_iff_ne]; omega
      have hbcN : (b == c) = false := by rw [beq_eq_false_iff_ne]; omega
      subst hkl
      clear HP hk hn hl hm hb hc h3 hklb hnm
      go_enter Try.func6, Try.ntmps6
      go_wp2_with (first
        | (go_at_call 7; refine (awake12_any _).mono ?_; rintro e w1 ⟨rfl, m1⟩; have M1 := Lib.hid m1; clear m1)
        | (go_at_call 13; have hx := M6.out; clear hx; with_reducible refine (HN2.out _).mono ?_; rintro e w7 ⟨rfl, m7⟩; have M7 := Lib.hid (M6.out.trans m7); clear m7)
        | (go_at_call 13; have hx := M5.out; clear hx; with_reducible refine (HN.out _).mono ?_; rintro e w6 ⟨rfl, m6⟩; have M6 := Lib.hid (M5.out.trans m6); clear m6)
        | (go_at_call 12; have hx := M4a.out; clear hx; with_reducible refine (HR2.out _).mono ?_; rintro e w5 ⟨rfl, m5⟩; have M5 := Lib.hid (M4a.out.trans m5); clear m5)
        | (go_at_call 12; have hx := M4.out; clear hx; with_reducible refine (HR.out _).mono ?_; rintro e w5 ⟨rfl, m5⟩; have M4a := Lib.hid (M4.out.trans m5); clear m5)
        | (go_at_call 8; refine (HM.out _).mono ?_; rintro e w4 ⟨rfl, m4⟩; have M4 := Lib.hid (M3.out.trans m4); clear m4)
        | (go_at_call 13; with_reducible refine (HN.out _).mono ?_; rintro e w3 ⟨rfl, m3⟩; have M3 := Lib.hid (M2.out.trans m3); clear m3)
        | (go_at_call 12; with_reducible refine (HR.out _).mono ?_; rintro e w2 ⟨rfl, m2⟩; have M2 := Lib.hid (M1.out.trans m2); clear m2))
      go_ret
      exact ⟨rfl, M7.out⟩
  · have hklb : ((k : Int) == (l : Int)) = false := by rw [beq_eq_false_iff_ne]; omega
    have hklN : (k == l) = false := by rw [beq_eq_false_iff_ne]; omega
    have hbc : ((b : Int) == (c : Int)) = false := by rw [beq_eq_false_iff_ne]; omega
    have hbcN : (b == c) = false := by rw [beq_eq_false_iff_ne]; omega
    clear HP hk hn hl hm hb hc h3 hkl
    go_enter Try.func6, Try.ntmps6
    go_wp2_with (first
      | (go_at_call 7; refine (awake12_any _).mono ?_; rintro e w1 ⟨rfl, m1⟩; have M1 := Lib.hid m1; clear m1)
      | (go_at_call 12; have hx := M4a.out; clear hx; with_reducible refine (HR2.out _).mono ?_; rintro e w5 ⟨rfl, m5⟩; have M5 := Lib.hid (M4a.out.trans m5); clear m5)
      | (go_at_call 12; have hx := M4.out; clear hx; with_reducible refine (HR.out _).mono ?_; rintro e w5 ⟨rfl, m5⟩; have M4a := Lib.hid (M4.out.trans m5); clear m5)
      | (go_at_call 8; refine (HM.out _).mono ?_; rintro e w4 ⟨rfl, m4⟩; have M4 := Lib.hid (M3.out.trans m4); clear m4)
      | (go_at_call 13; with_reducible refine (HN.out _).mono ?_; rintro e w3 ⟨rfl, m3⟩; have M3 := Lib.hid (M2.out.trans m3); clear m3)
      | (go_at_call 12; with_reducible refine (HR.out _).mono ?_; rintro e w2 ⟨rfl, m2⟩; have M2 := Lib.hid (M1.out.trans m2); clear m2))
    go_ret
    exact ⟨rfl, M5.out⟩
end Go.Proofs.Ytgpobofekjfcdaa
