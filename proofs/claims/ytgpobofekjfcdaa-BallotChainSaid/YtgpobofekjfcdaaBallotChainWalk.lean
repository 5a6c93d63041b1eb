/- BallotChain's walk. -/
import Derived.Test.YtgpobofekjfcdaaAwake12
import Derived.Test.YtgpobofekjfcdaaOpen
namespace Go.Proofs.Ytgpobofekjfcdaa
set_option maxRecDepth 1000000
open Go.RowKit
set_option linter.unusedVariables false
set_option linter.unusedSimpArgs false

theorem u32_of_wf12 {x : Int} (h : (Lit.int .u32 x).wf = true) : 0 ≤ x ∧ x < 4294967296 := by
  have h1 : IntKind.u32.min = 0 := rfl
  have h2 : IntKind.u32.max = 4294967295 := rfl
  simp only [Lit.wf, h1, h2, Bool.and_eq_true, decide_eq_true_eq] at h
  omega
theorem u8_and31 (b : UInt8) : bits .and .u8 (b.toNat : Int) 31 = ((b.toNat % 32 : Nat) : Int) := by
  have := u8_and_nat b.toNat 31 (by have := b.toNat_lt; omega) (by omega)
  rw [show ((31 : Int)) = ((31 : Nat) : Int) from rfl, this, Nat.and_two_pow_sub_one_eq_mod b.toNat 5]

theorem sl_byte12 {w : World} {A : Option Addr} {c j : Nat} {xs : List UInt8} (h : Sl w A c (bts xs)) (hj : j < xs.length) :
    ∃ b off, A = some ⟨b, off, none⟩ ∧ b < w.heap.size ∧ w.cell? ⟨b, off + j, none⟩ = some (.int .u8 (xs[j].toNat : Int)) := by
  obtain ⟨b, off, hA, hb, hc⟩ := h.at_ (by simp; omega)
  exact ⟨b, off, hA, hb, hc j _ (bts_get xs j hj)⟩

set_option maxHeartbeats 3200000 in
theorem ballotChain_walk (w : World) {A : Option Addr} {c n : Nat} {xs : List UInt8} (hn : xs.length = n) (hs : Sl w A c (bts xs)) {fi : Int} (wf : (Lit.int .u32 fi).wf = true) :
    Calls Try.prog 5 #[.slice A n c, .int .u32 fi] w fun e w' => e = .returned (.bool true) ∧ Mods Nil w w' := by
  have hf0 := u32_of_wf12 wf
  obtain ⟨f, rfl⟩ : ∃ f : Nat, fi = (f : Int) := ⟨fi.toNat, by omega⟩
  have hf : f < 4294967296 := by omega
  clear wf hf0
  have HS := Lib.hid hs
  have HN := Lib.hid hn
  clear hs hn
  by_cases h60 : 60 < n
  · have h60I : decide ((60 : Int) < (n : Int)) = true := by simp; omega
    have h60N : decide (60 < n) = true := by simp; omega
    go_enter Try.func5, Try.ntmps5
    go_wp2_with (go_at_call 7; refine (awake12_any _).mono ?_; rintro e w1 ⟨rfl, m1⟩; have M1 := Lib.hid m1; clear m1)
    go_ret
    exact ⟨rfl, M1.out⟩
  have h60I : decide ((60 : Int) < (n : Int)) = false := by simp; omega
  have h60N : decide (60 < n) = false := by simp; omega
  have HF := Lib.hid hf
  have hfw : IntKind.u64.wrap (f : Int) = (f : Int) := by rw [IntKind.wrap_u64]; omega
  clear hf
  go_enter Try.func5, Try.ntmps5
  go_wp2_with (go_at_call 7; refine (awake12_any _).mono ?_; rintro e w1 ⟨rfl, m1⟩; have M1 := Lib.hid m1; clear m1)
  go_loopw [6, 7] (fun v x wr => ∃ (i b : Nat), i ≤ n ∧ x = .int .i64 (i : Int) ∧ v = .int .u64 (b : Int) ∧ b ≤ f + 32 * i ∧ Mods Nil w wr) (fun _ x _ => n - (intOf x).toNat)
  case atStart => exact ⟨0, f, Nat.zero_le _, rfl, rfl, by omega, M1.out⟩
  case round =>
    clear M1
    obtain ⟨i, b, hi, rfl, rfl, hb, hmo⟩ := hrel
    have HMO := Lib.hid hmo
    clear hmo
    by_cases hlt : i < n
    · have hltI : (i : Int) < (n : Int) := by omega
      obtain ⟨blk, off, rfl, hlt2, hcell⟩ := sl_byte12 (HS.out.mods HMO.out (fun _ _ h => h)) (j := i) (by rw [HN.out]; exact hlt)
      obtain ⟨v, hv⟩ : ∃ v, xs[i]'(by rw [HN.out]; exact hlt) = v := ⟨_, rfl⟩
      rw [hv] at hcell
      clear hv
      obtain ⟨k, hk⟩ : ∃ k, v.toNat % 32 = k := ⟨_, rfl⟩
      have hand : bits .and .u8 (v.toNat : Int) 31 = (k : Int) := by rw [u8_and31, hk]
      have hk32 : k < 32 := by omega
      have HKW : Hid (wrap64 (k : Int) = (k : Int)) := Lib.hid (by unfold wrap64; omega)
      have hb9 : b < 8589934592 := by have := HF.out; omega
      clear hk
      obtain ⟨u, hu⟩ : ∃ u, bUp b (k : Int) = u := ⟨_, rfl⟩
      have hu' : (k ≤ b % 32 ∧ u = b / 32 + 1) ∨ (b % 32 < k ∧ u = b / 32) := by
        unfold bUp at hu
        split at hu <;> omega
      obtain ⟨t, ht⟩ : ∃ t, 32 * u + k = t := ⟨_, rfl⟩
      obtain ⟨q, hq⟩ : ∃ q, b / 32 = q := ⟨_, rfl⟩
      obtain ⟨q1, hq1⟩ : ∃ q1, q + 1 = q1 := ⟨_, rfl⟩
      have hmk := bMake_ok (r := u) (j := (k : Int)) (by omega) (by omega)
      have hmk1 : bMakeN u (k : Int) = t := by omega
      have hb64 : b < 18446744073709551616 := by omega
      have ht64 : t < 18446744073709551616 := by omega
      have HNX : Hid (∀ V, Calls Try.prog 10 #[.int .u64 (b : Int), .int .i64 (k : Int)] V fun e w' => e = .returned (.tuple #[.int .u64 (t : Int), .int .i64 0]) ∧ Mods Nil V w') := Lib.hid (fun V => by have h := bnext_any V hb64 (j := (k : Int)); rw [hu, hmk1, hmk.2] at h; exact h)
      have HND : Hid (∀ V, Calls Try.prog 13 #[.int .u64 (t : Int)] V fun e w' => e = .returned (.int .i64 (k : Int)) ∧ Mods Nil V w') := Lib.hid (fun V => by have h := bnode_any V ht64; rw [show t % 32 = k by omega] at h; exact h)
      have HRT : Hid (∀ V, Calls Try.prog 12 #[.int .u64 (t : Int)] V fun e w' => e = .returned (.int .u64 (u : Int)) ∧ Mods Nil V w') := Lib.hid (fun V => by have h := bround_any V ht64; rw [show t / 32 = u by omega] at h; exact h)
      have HRB : Hid (∀ V, Calls Try.prog 12 #[.int .u64 (b : Int)] V fun e w' => e = .returned (.int .u64 (q : Int)) ∧ Mods Nil V w') := Lib.hid (fun V => by have h := bround_any V hb64; rw [hq] at h; exact h)
      have hw : IntKind.u64.wrap ((q : Int) + 1) = (q1 : Int) := by rw [IntKind.wrap_u64]; omega
      have g1 : decide ((t : Int) ≤ (b : Int)) = false := by simp; omega
      have g1N : decide (t ≤ b) = false := by simp; omega
      have g2 : decide ((q1 : Int) < (u : Int)) = false := by simp; omega
      have g2N : decide (q1 < u) = false := by simp; omega
      have g3 : decide ((u : Int) < (q : Int)) = false := by simp; omega
      have g3N : decide (u < q) = false := by simp; omega
      have HT := Lib.hid (show t ≤ f + 32 * (i + 1) by omega)
      have hkw := HKW.out
      clear hb hu hu' ht hq hq1 hmk hmk1 hb64 ht64 hk32 hb9
      go_wp2_with (first
        | (go_at_call 12; have hx := M6.out; clear hx; with_reducible refine (HRB.out _).mono ?_; rintro e w7 ⟨rfl, m7⟩; have M7 := Lib.hid (M6.out.trans m7); clear m7)
        | (go_at_call 12; have hx := M5.out; clear hx; with_reducible refine (HRT.out _).mono ?_; rintro e w6 ⟨rfl, m6⟩; have M6 := Lib.hid (M5.out.trans m6); clear m6)
        | (go_at_call 12; have hx := M4.out; clear hx; with_reducible refine (HRB.out _).mono ?_; rintro e w5 ⟨rfl, m5⟩; have M5 := Lib.hid (M4.out.trans m5); clear m5)
        | (go_at_call 12; have hx := M3.out; clear hx; with_reducible refine (HRT.out _).mono ?_; rintro e w4 ⟨rfl, m4⟩; have M4 := Lib.hid (M3.out.trans m4); clear m4)
        | (go_at_call 13; with_reducible refine (HND.out _).mono ?_; rintro e w3 ⟨rfl, m3⟩; have M3 := Lib.hid (M2.out.trans m3); clear m3)
        | (go_at_call 10; with_reducible refine (HNX.out _).mono ?_; rintro e w2 ⟨rfl, m2⟩; have M2 := Lib.hid (HMO.out.trans m2); clear m2))
      exact ⟨⟨i + 1, t, by omega, by go_num, rfl, HT.out, M7.out⟩, by simp [intOf]; omega⟩
    · obtain rfl : i = n := by omega
      go_wp2
      go_ret
      exact ⟨rfl, HMO.out⟩
end Go.Proofs.Ytgpobofekjfcdaa
