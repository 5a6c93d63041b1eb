/- BallotOrder's walk. Printed by wip/tools/gen12/order.py. -/
import Derived.Test.YtgpobofekjfcdaaAwake12
import Derived.Test.YtgpobofekjfcdaaOpen
namespace Go.Proofs.Ytgpobofekjfcdaa
set_option maxRecDepth 1000000
open Go.RowKit
set_option linter.unusedVariables false
set_option linter.unusedSimpArgs false

set_option maxHeartbeats 6400000 in
theorem ballotOrder_walk (w : World) {ai : Int} (wa : (Lit.int .u64 ai).wf = true) {bi : Int} (wb : (Lit.int .u64 bi).wf = true) {j : Int} (wj : (Lit.int .i64 j).wf = true) {o : Int} (wo : (Lit.int .i64 o).wf = true) :
    Calls Try.prog 4 #[.int .u64 ai, .int .u64 bi, .int .i64 j, .int .i64 o] w fun e w' => e = .returned (.bool true) ∧ Mods Nil w w' := by
  have ha0 := u64_of_wf wa
  have hb0 := u64_of_wf wb
  obtain ⟨a, rfl⟩ : ∃ a : Nat, ai = (a : Int) := ⟨ai.toNat, by omega⟩
  obtain ⟨b, rfl⟩ : ∃ b : Nat, bi = (b : Int) := ⟨bi.toNat, by omega⟩
  have ha : a < 18446744073709551616 := by omega
  have hb : b < 18446744073709551616 := by omega
  clear wa wb wj wo ha0 hb0
  obtain ⟨x, hx⟩ : ∃ x, bMakeN a j = x := ⟨_, rfl⟩
  obtain ⟨e1, he1⟩ : ∃ y, bMakeE a j = y := ⟨_, rfl⟩
  obtain ⟨y, hy⟩ : ∃ x, bMakeN b o = x := ⟨_, rfl⟩
  obtain ⟨e2, he2⟩ : ∃ y, bMakeE b o = y := ⟨_, rfl⟩
  have H1 : Hid (∀ V, Calls Try.prog 8 #[.int .u64 (a : Int), .int .i64 j] V fun e w' => e = .returned (.tuple #[.int .u64 (x : Int), .int .i64 (e1 : Int)]) ∧ Mods Nil V w') := Lib.hid (fun V => by rw [← hx, ← he1]; exact bmake_any V ha)
  have H2 : Hid (∀ V, Calls Try.prog 8 #[.int .u64 (b : Int), .int .i64 o] V fun e w' => e = .returned (.tuple #[.int .u64 (y : Int), .int .i64 (e2 : Int)]) ∧ Mods Nil V w') := Lib.hid (fun V => by rw [← hy, ← he2]; exact bmake_any V hb)
  by_cases h1 : (j < 0 ∨ 32 ≤ j) ∨ 576460752303423488 ≤ a
  · have he : e1 = 1 ∨ e1 = 37 := by
      by_cases h3 : j < 0 ∨ 32 ≤ j
      · have := bMake_bad (r := a) h3; omega
      · have := bMake_worn (r := a) h3 (by omega); omega
    clear hx he1 hy he2 h1 ha hb
    rcases he with rfl | rfl <;>
    · go_enter Try.func4, Try.ntmps4
      go_wp2_with (first
        | (go_at_call 7; refine (awake12_any _).mono ?_; rintro e w1 ⟨rfl, m1⟩; have M1 := Lib.hid m1; clear m1)
        | (go_at_call 8; have hx := M2.out; clear hx; with_reducible refine (H2.out _).mono ?_; rintro e w3 ⟨rfl, m3⟩; have M3 := Lib.hid (M2.out.trans m3); clear m3)
        | (go_at_call 8; with_reducible refine (H1.out _).mono ?_; rintro e w2 ⟨rfl, m2⟩; have M2 := Lib.hid (M1.out.trans m2); clear m2))
      go_ret
      exact ⟨rfl, M3.out⟩
  obtain ⟨n, rfl⟩ : ∃ n : Nat, j = (n : Int) := ⟨j.toNat, by omega⟩
  have hm1 := bMake_ok (r := a) (j := (n : Int)) (by omega) (by omega)
  obtain rfl : e1 = 0 := by omega
  have hx' : x = 32 * a + n := by omega
  have hn : n < 32 := by omega
  have ha9 : a < 576460752303423488 := by omega
  clear hx he1 hm1 h1 ha
  by_cases h2 : (o < 0 ∨ 32 ≤ o) ∨ 576460752303423488 ≤ b
  · have he : e2 = 1 ∨ e2 = 37 := by
      by_cases h3 : o < 0 ∨ 32 ≤ o
      · have := bMake_bad (r := b) h3; omega
      · have := bMake_worn (r := b) h3 (by omega); omega
    clear hx' hy he2 h2 hb
    rcases he with rfl | rfl <;>
    · go_enter Try.func4, Try.ntmps4
      go_wp2_with (first
        | (go_at_call 7; refine (awake12_any _).mono ?_; rintro e w1 ⟨rfl, m1⟩; have M1 := Lib.hid m1; clear m1)
        | (go_at_call 8; have hx := M2.out; clear hx; with_reducible refine (H2.out _).mono ?_; rintro e w3 ⟨rfl, m3⟩; have M3 := Lib.hid (M2.out.trans m3); clear m3)
        | (go_at_call 8; with_reducible refine (H1.out _).mono ?_; rintro e w2 ⟨rfl, m2⟩; have M2 := Lib.hid (M1.out.trans m2); clear m2))
      go_ret
      exact ⟨rfl, M3.out⟩
  obtain ⟨m, rfl⟩ : ∃ n : Nat, o = (n : Int) := ⟨o.toNat, by omega⟩
  have hm2 := bMake_ok (r := b) (j := (m : Int)) (by omega) (by omega)
  obtain rfl : e2 = 0 := by omega
  have hy' : y = 32 * b + m := by omega
  have hm : m < 32 := by omega
  have hb9 : b < 576460752303423488 := by omega
  have hy64 : y < 18446744073709551616 := by omega
  clear hy he2 hm2 h2 hb
  obtain ⟨u, hu⟩ : ∃ u, bUp y (n : Int) = u := ⟨_, rfl⟩
  obtain ⟨p, hp⟩ : ∃ p, bMakeN u (n : Int) = p := ⟨_, rfl⟩
  obtain ⟨g, hg⟩ : ∃ g, bMakeE u (n : Int) = g := ⟨_, rfl⟩
  have H3 : Hid (∀ V, Calls Try.prog 10 #[.int .u64 (y : Int), .int .i64 (n : Int)] V fun e w' => e = .returned (.tuple #[.int .u64 (p : Int), .int .i64 (g : Int)]) ∧ Mods Nil V w') := Lib.hid (fun V => by rw [← hp, ← hg, ← hu]; exact bnext_any V hy64)
  have hu' : (n ≤ m ∧ u = b + 1) ∨ (m < n ∧ u = b) := by
    unfold bUp at hu
    split at hu <;> omega
  clear hu
  by_cases hu9 : 576460752303423488 ≤ u
  · have hm3 := bMake_worn (r := u) (j := (n : Int)) (by omega) hu9
    obtain rfl : g = 37 := by omega
    have hbb : b = 576460752303423487 := by omega
    have hbbI : ((b : Int) == 576460752303423487) = true := by rw [beq_iff_eq]; omega
    have hbbN : (b == 576460752303423487) = true := by rw [beq_iff_eq]; omega
    clear hbb hp hg hm3 hu' hu9 hx' hy' hy64 hb9 ha9
    go_enter Try.func4, Try.ntmps4
    go_wp2_with (first
      | (go_at_call 7; refine (awake12_any _).mono ?_; rintro e w1 ⟨rfl, m1⟩; have M1 := Lib.hid m1; clear m1)
      | (go_at_call 10; with_reducible refine (H3.out _).mono ?_; rintro e w4 ⟨rfl, m4⟩; have M4 := Lib.hid (M3.out.trans m4); clear m4)
      | (go_at_call 8; have hx := M2.out; clear hx; with_reducible refine (H2.out _).mono ?_; rintro e w3 ⟨rfl, m3⟩; have M3 := Lib.hid (M2.out.trans m3); clear m3)
      | (go_at_call 8; with_reducible refine (H1.out _).mono ?_; rintro e w2 ⟨rfl, m2⟩; have M2 := Lib.hid (M1.out.trans m2); clear m2))
    go_ret
    exact ⟨rfl, M4.out⟩
  have hm3 := bMake_ok (r := u) (j := (n : Int)) (by omega) hu9
  obtain rfl : g = 0 := by omega
  have hp' : p = 32 * u + n := by omega
  have hp64 : p < 18446744073709551616 := by omega
  have hpn : p % 32 = n := by omega
  have H4 : Hid (∀ V, Calls Try.prog 13 #[.int .u64 (p : Int)] V fun e w' => e = .returned (.int .i64 (n : Int)) ∧ Mods Nil V w') := Lib.hid (fun V => by have h := bnode_any V hp64; rw [hpn] at h; exact h)
  have hyp : y < p := by omega
  obtain ⟨d, hd⟩ : ∃ d, p - y = d := ⟨_, rfl⟩
  have hw : IntKind.u64.wrap ((p : Int) - (y : Int)) = (d : Int) := by rw [IntKind.wrap_u64]; omega
  have hd32 : d ≤ 32 := by omega
  have hdb : decide ((d : Int) ≤ 32) = true := by simp; omega
  have hdN : decide (d ≤ 32) = true := by simp; omega
  have hypI : decide ((y : Int) < (p : Int)) = true := by simp; omega
  have hypN : decide (y < p) = true := by simp; omega
  have hw2 : (p : Int) - (y : Int) = (d : Int) := by omega
  clear hm3 hp hg hd
  by_cases hab : a < b
  · have q1 : decide ((b : Int) ≤ (a : Int)) = false := by simp; omega
    have q1N : decide (b ≤ a) = false := by simp; omega
    have q2 : decide ((x : Int) < (y : Int)) = true := by simp; omega
    have q2N : decide (x < y) = true := by simp; omega
    have q3 : ((x : Int) == (y : Int)) = false := by rw [beq_eq_false_iff_ne]; omega
    have q3N : (x == y) = false := by rw [beq_eq_false_iff_ne]; omega
    have q4 : ((a : Int) == (b : Int)) = false := by rw [beq_eq_false_iff_ne]; omega
    have q4N : (a == b) = false := by rw [beq_eq_false_iff_ne]; omega
    have q5 : decide ((x : Int) ≤ (y : Int)) = true := by simp; omega
    have q5N : decide (x ≤ y) = true := by simp; omega
    clear hx' hy' hp' hu' hu9 hn hm ha9 hb9 hy64 hp64 hpn hyp hw2 hd32
    clear hab
    go_enter Try.func4, Try.ntmps4
    go_wp2_with (first
      | (go_at_call 7; refine (awake12_any _).mono ?_; rintro e w1 ⟨rfl, m1⟩; have M1 := Lib.hid m1; clear m1)
      | (go_at_call 13; with_reducible refine (H4.out _).mono ?_; rintro e w5 ⟨rfl, m5⟩; have M5 := Lib.hid (M4.out.trans m5); clear m5)
      | (go_at_call 10; with_reducible refine (H3.out _).mono ?_; rintro e w4 ⟨rfl, m4⟩; have M4 := Lib.hid (M3.out.trans m4); clear m4)
      | (go_at_call 8; have hx := M2.out; clear hx; with_reducible refine (H2.out _).mono ?_; rintro e w3 ⟨rfl, m3⟩; have M3 := Lib.hid (M2.out.trans m3); clear m3)
      | (go_at_call 8; with_reducible refine (H1.out _).mono ?_; rintro e w2 ⟨rfl, m2⟩; have M2 := Lib.hid (M1.out.trans m2); clear m2))
    go_ret
    exact ⟨rfl, M5.out⟩
  by_cases hba : b < a
  · have q1 : decide ((b : Int) ≤ (a : Int)) = true := by simp; omega
    have q1N : decide (b ≤ a) = true := by simp; omega
    have q3 : ((x : Int) == (y : Int)) = false := by rw [beq_eq_false_iff_ne]; omega
    have q3N : (x == y) = false := by rw [beq_eq_false_iff_ne]; omega
    have q4 : ((a : Int) == (b : Int)) = false := by rw [beq_eq_false_iff_ne]; omega
    have q4N : (a == b) = false := by rw [beq_eq_false_iff_ne]; omega
    have q5 : decide ((x : Int) ≤ (y : Int)) = false := by simp; omega
    have q5N : decide (x ≤ y) = false := by simp; omega
    have q6 : decide ((p : Int) ≤ (x : Int)) = true := by simp; omega
    have q6N : decide (p ≤ x) = true := by simp; omega
    clear hx' hy' hp' hu' hu9 hn hm ha9 hb9 hy64 hp64 hpn hyp hw2 hd32
    clear hab hba
    go_enter Try.func4, Try.ntmps4
    go_wp2_with (first
      | (go_at_call 7; refine (awake12_any _).mono ?_; rintro e w1 ⟨rfl, m1⟩; have M1 := Lib.hid m1; clear m1)
      | (go_at_call 13; with_reducible refine (H4.out _).mono ?_; rintro e w5 ⟨rfl, m5⟩; have M5 := Lib.hid (M4.out.trans m5); clear m5)
      | (go_at_call 10; with_reducible refine (H3.out _).mono ?_; rintro e w4 ⟨rfl, m4⟩; have M4 := Lib.hid (M3.out.trans m4); clear m4)
      | (go_at_call 8; have hx := M2.out; clear hx; with_reducible refine (H2.out _).mono ?_; rintro e w3 ⟨rfl, m3⟩; have M3 := Lib.hid (M2.out.trans m3); clear m3)
      | (go_at_call 8; with_reducible refine (H1.out _).mono ?_; rintro e w2 ⟨rfl, m2⟩; have M2 := Lib.hid (M1.out.trans m2); clear m2))
    go_ret
    exact ⟨rfl, M5.out⟩
  obtain rfl : a = b := by omega
  by_cases hnm : n = m
  · subst hnm
    obtain rfl : x = y := by omega
    clear hx' hy' hp' hu' hu9 hn hm ha9 hb9 hy64 hp64 hpn hyp hw2 hd32
    clear hab hba
    go_enter Try.func4, Try.ntmps4
    go_wp2_with (first
      | (go_at_call 7; refine (awake12_any _).mono ?_; rintro e w1 ⟨rfl, m1⟩; have M1 := Lib.hid m1; clear m1)
      | (go_at_call 13; with_reducible refine (H4.out _).mono ?_; rintro e w5 ⟨rfl, m5⟩; have M5 := Lib.hid (M4.out.trans m5); clear m5)
      | (go_at_call 10; with_reducible refine (H3.out _).mono ?_; rintro e w4 ⟨rfl, m4⟩; have M4 := Lib.hid (M3.out.trans m4); clear m4)
      | (go_at_call 8; have hx := M2.out; clear hx; with_reducible refine (H2.out _).mono ?_; rintro e w3 ⟨rfl, m3⟩; have M3 := Lib.hid (M2.out.trans m3); clear m3)
      | (go_at_call 8; with_reducible refine (H1.out _).mono ?_; rintro e w2 ⟨rfl, m2⟩; have M2 := Lib.hid (M1.out.trans m2); clear m2))
    go_ret
    exact ⟨rfl, M5.out⟩
  by_cases hnm2 : n < m
  · have q3 : ((x : Int) == (y : Int)) = false := by rw [beq_eq_false_iff_ne]; omega
    have q3N : (x == y) = false := by rw [beq_eq_false_iff_ne]; omega
    have q4 : ((n : Int) == (m : Int)) = false := by rw [beq_eq_false_iff_ne]; omega
    have q4N : (n == m) = false := by rw [beq_eq_false_iff_ne]; omega
    have q5 : decide ((x : Int) ≤ (y : Int)) = true := by simp; omega
    have q5N : decide (x ≤ y) = true := by simp; omega
    clear hx' hy' hp' hu' hu9 hn hm ha9 hb9 hy64 hp64 hpn hyp hw2 hd32
    clear hab hba hnm hnm2
    go_enter Try.func4, Try.ntmps4
    go_wp2_with (first
      | (go_at_call 7; refine (awake12_any _).mono ?_; rintro e w1 ⟨rfl, m1⟩; have M1 := Lib.hid m1; clear m1)
      | (go_at_call 13; with_reducible refine (H4.out _).mono ?_; rintro e w5 ⟨rfl, m5⟩; have M5 := Lib.hid (M4.out.trans m5); clear m5)
      | (go_at_call 10; with_reducible refine (H3.out _).mono ?_; rintro e w4 ⟨rfl, m4⟩; have M4 := Lib.hid (M3.out.trans m4); clear m4)
      | (go_at_call 8; have hx := M2.out; clear hx; with_reducible refine (H2.out _).mono ?_; rintro e w3 ⟨rfl, m3⟩; have M3 := Lib.hid (M2.out.trans m3); clear m3)
      | (go_at_call 8; with_reducible refine (H1.out _).mono ?_; rintro e w2 ⟨rfl, m2⟩; have M2 := Lib.hid (M1.out.trans m2); clear m2))
    go_ret
    exact ⟨rfl, M5.out⟩
  · have q3 : ((x : Int) == (y : Int)) = false := by rw [beq_eq_false_iff_ne]; omega
    have q3N : (x == y) = false := by rw [beq_eq_false_iff_ne]; omega
    have q4 : ((n : Int) == (m : Int)) = false := by rw [beq_eq_false_iff_ne]; omega
    have q4N : (n == m) = false := by rw [beq_eq_false_iff_ne]; omega
    have q5 : decide ((x : Int) ≤ (y : Int)) = false := by simp; omega
    have q5N : decide (x ≤ y) = false := by simp; omega
    have q6 : decide ((p : Int) ≤ (x : Int)) = true := by simp; omega
    have q6N : decide (p ≤ x) = true := by simp; omega
    clear hx' hy' hp' hu' hu9 hn hm ha9 hb9 hy64 hp64 hpn hyp hw2 hd32
    clear hab hba hnm hnm2
    go_enter Try.func4, Try.ntmps4
    go_wp2_with (first
      | (go_at_call 7; refine (awake12_any _).mono ?_; rintro e w1 ⟨rfl, m1⟩; have M1 := Lib.hid m1; clear m1)
      | (go_at_call 13; with_reducible refine (H4.out _).mono ?_; rintro e w5 ⟨rfl, m5⟩; have M5 := Lib.hid (M4.out.trans m5); clear m5)
      | (go_at_call 10; with_reducible refine (H3.out _).mono ?_; rintro e w4 ⟨rfl, m4⟩; have M4 := Lib.hid (M3.out.trans m4); clear m4)
      | (go_at_call 8; have hx := M2.out; clear hx; with_reducible refine (H2.out _).mono ?_; rintro e w3 ⟨rfl, m3⟩; have M3 := Lib.hid (M2.out.trans m3); clear m3)
      | (go_at_call 8; with_reducible refine (H1.out _).mono ?_; rintro e w2 ⟨rfl, m2⟩; have M2 := Lib.hid (M1.out.trans m2); clear m2))
    go_ret
    exact ⟨rfl, M5.out⟩
end Go.Proofs.Ytgpobofekjfcdaa
