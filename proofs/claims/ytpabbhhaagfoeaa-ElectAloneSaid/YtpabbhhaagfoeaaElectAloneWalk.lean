/- ElectAlone: who hears nothing stands at each of its turns. -/
import Derived.Test.YtpabbhhaagfoeaaHelp16
namespace Go.Proofs.Ytpabbhhaagfoeaa
set_option maxRecDepth 100000
open Go.RowKit
set_option linter.unusedVariables false
set_option linter.unusedSimpArgs false

set_option maxHeartbeats 6400000 in
theorem electAlone_walk (w : World) {ai : Int} (wa : (Lit.int .u8 ai).wf = true) {bi : Int} (wb : (Lit.int .u8 bi).wf = true) {ci : Int} (wc : (Lit.int .u16 ci).wf = true) :
    Calls Try.prog 7 #[.int .u8 ai, .int .u8 bi, .int .u16 ci] w fun e w' => e = .returned (.bool true) ∧ Mods Nil w w' := by
  have ha0 := u8_of_wf wa
  have hb0 := u8_of_wf wb
  have hc0 := u16_of_wf wc
  obtain ⟨a, rfl⟩ : ∃ a : Nat, ai = (a : Int) := ⟨ai.toNat, by omega⟩
  obtain ⟨b, rfl⟩ : ∃ b : Nat, bi = (b : Int) := ⟨bi.toNat, by omega⟩
  obtain ⟨c, rfl⟩ : ∃ c : Nat, ci = (c : Int) := ⟨ci.toNat, by omega⟩
  have ha : a < 256 := by omega
  have hand := u8_and31n a ha
  have hrb := tmod_nat16 b 50
  have hrc := tmod_nat16 c 2000
  obtain ⟨n, hn⟩ : ∃ n, a % 32 = n := ⟨_, rfl⟩
  obtain ⟨p', hp'⟩ : ∃ p, b % 50 = p := ⟨_, rfl⟩
  obtain ⟨k, hk⟩ : ∃ k, c % 2000 = k := ⟨_, rfl⟩
  obtain ⟨p, hp⟩ : ∃ p, p' + 1 = p := ⟨_, rfl⟩
  rw [hn] at hand
  rw [hp'] at hrb
  rw [hk] at hrc
  have hn31 : n ≤ 31 := by omega
  have hp50 : p ≤ 50 := by omega
  have hp1 : 1 ≤ p := by omega
  have hk2 : k < 2000 := by omega
  have hrb' : ((b : Int)).tmod 50 = (p' : Int) := hrb
  have hrc' : ((c : Int)).tmod 2000 = (k : Int) := hrc
  have hw1 : IntKind.i64.wrap (n : Int) = (n : Int) := by rw [IntKind.wrap_i64]; omega
  have hw2 : IntKind.i64.wrap (p' : Int) = (p' : Int) := by rw [IntKind.wrap_i64]; omega
  have hw3 : IntKind.i64.wrap (k : Int) = (k : Int) := by rw [IntKind.wrap_i64]; omega
  have hw4 : IntKind.i64.wrap ((p' : Int) + 1) = (p : Int) := by rw [IntKind.wrap_i64]; omega
  have hw5 : IntKind.i64.wrap ((n : Int) + 1) = (n : Int) + 1 := by rw [IntKind.wrap_i64]; omega
  have hu1 : IntKind.u8.wrap (p' : Int) = (p' : Int) := by rw [IntKind.wrap_u8]; omega
  have hu2 : IntKind.u16.wrap (k : Int) = (k : Int) := by rw [IntKind.wrap_u16]; omega
  have hT : p * (n + 1) ≤ 1600 := Nat.le_trans (Nat.mul_le_mul hp50 (Nat.succ_le_succ hn31)) (by decide)
  have hT1 : 1 ≤ p * (n + 1) := Nat.mul_pos (by omega) (by omega)
  have hcast : ((p * (n + 1) : Nat) : Int) = (p : Int) * ((n : Int) + 1) := by simp
  have HN : Hid (∀ W, Mods Nil w W → Calls Try.prog 29 #[.int .i64 (n : Int), .int .i64 (p : Int)] W fun e V => ∃ b, e = .returned (.tuple #[.pointer (some ⟨b, 0, none⟩), .int .i64 0]) ∧ ES w V b (p * (n + 1)) (p * (n + 1)) 0 ∧ W.heap.size ≤ b ∧ Mods Nil W V) := Lib.hid (fun W hW => es_new hW hn31 hp1 (by omega))
  obtain ⟨t, ht⟩ : ∃ t, p * (n + 1) = t := ⟨_, rfl⟩
  rw [ht] at hcast hT1 HN hT
  have ht1600 : t ≤ 1600 := hT
  have hw6 : IntKind.i64.wrap ((p : Int) * ((n : Int) + 1)) = (t : Int) := by rw [IntKind.wrap_i64, ← hcast]; omega
  clear wa wb wc ha0 hb0 hc0 ha hn hp' hk hp hrb hrc hT hcast ht
  go_enter Try.func7, Try.ntmps7
  go_wp2_with (first
    | (go_at_call 28; refine (awake16_any _).mono ?_; rintro e w1 ⟨rfl, m1⟩; have M1 := Lib.hid m1; clear m1)
    | (go_at_call 29; refine (HN.out _ M1.out).mono ?_; rintro e w2 ⟨g, rfl, s2, _, _⟩; have S2 := Lib.hid s2; clear s2))
  clear HN hand hrb' hrc' hw1 hw2 hw3 hw4 hw5 hu1 hu2 hw6
  go_loopw [13, 15] (fun x y wr => ∃ q r j : Nat, x = .int .i64 (q : Int) ∧ y = .int .i64 ((j + 1 : Nat) : Int) ∧ Hid (j = t * q + r) ∧ r < t ∧ q ≤ j ∧ j ≤ k ∧ ES w wr g t (t - r) 0) (fun _ y _ => k + 1 - (intOf y).toNat)
  case atStart => exact ⟨0, 0, 0, rfl, rfl, Lib.hid (by simp), by omega, by omega, by omega, S2.out⟩
  case round =>
    obtain ⟨q, r, j, rfl, rfl, hj, hr, hqj, hjk, hs⟩ := hrel
    have S := Lib.hid hs
    have HJ := hj
    clear hs S2 hj
    by_cases hgo : j < k
    · have hgI : decide (((j + 1 : Nat) : Int) ≤ (k : Int)) = true := by simp; omega
      have hgN : decide (j + 1 ≤ k) = true := by simp; omega
      by_cases hre : r + 1 = t
      · have hstep := quiet_yes hre
        have hx : Hid (j + 1 = t * (q + 1) + 0) := Lib.hid (by rw [HJ.out, Nat.mul_succ]; omega)
        have hw7 : IntKind.i64.wrap ((q : Int) + 1) = ((q + 1 : Nat) : Int) := wrapN (n := q + 1) (by omega)
        have hcast : (((q + 1 : Nat) : Int)) * (t : Int) = ((j + 1 : Nat) : Int) := by rw [hx.out]; push_cast; rw [Int.mul_comm]; omega
        have HT : Hid (Calls Try.prog 31 #[.pointer (some ⟨g, 0, none⟩)] wr fun e V => e = .returned (.bool true) ∧ ES w V g t (t - 0) 0 ∧ Mods (EN g) wr V) := Lib.hid (by have h := S.out.tick ⟨by omega, by omega, by omega⟩; rw [hstep.1, hstep.2] at h; exact h)
        obtain ⟨q', hq'⟩ : ∃ q', q + 1 = q' := ⟨_, rfl⟩
        obtain ⟨j', hj'⟩ : ∃ j', j + 1 = j' := ⟨_, rfl⟩
        rw [hq'] at hw7 hcast hx
        rw [hj'] at hcast hgN hgI hx ⊢
        have hj'k : j' ≤ k := by omega
        have hqj' : q' ≤ j' := by omega
        have ht1' : 0 < t := by omega
        have hw8 : IntKind.i64.wrap ((q' : Int) * (t : Int)) = (j' : Int) := by rw [hcast]; exact wrapN (by omega)
        clear hstep hcast hqj hjk hgo hre
        go_wp2_with (go_at_call 31; refine (HT.out).mono ?_; rintro e w3 ⟨rfl, s3, _⟩; have S3 := Lib.hid s3; clear s3)
        exact ⟨⟨q', 0, j', by go_num, by go_num, hx, ht1', hqj', hj'k, S3.out⟩, by simp [intOf]; omega⟩
      · have hstep := quiet_no (show r + 1 < t by omega)
        have hx : Hid (j + 1 = t * q + (r + 1)) := Lib.hid (by rw [HJ.out]; omega)
        have HT : Hid (Calls Try.prog 31 #[.pointer (some ⟨g, 0, none⟩)] wr fun e V => e = .returned (.bool false) ∧ ES w V g t (t - (r + 1)) 0 ∧ Mods (EN g) wr V) := Lib.hid (by have h := S.out.tick ⟨by omega, by omega, by omega⟩; rw [hstep.1, hstep.2] at h; exact h)
        clear hstep
        go_wp2_with (go_at_call 31; refine (HT.out).mono ?_; rintro e w3 ⟨rfl, s3, _⟩; have S3 := Lib.hid s3; clear s3)
        exact ⟨⟨q, r + 1, j + 1, rfl, by go_num, hx, by omega, by omega, by omega, S3.out⟩, by simp [intOf]; omega⟩
    · obtain rfl : j = k := by omega
      have hgI : decide (((j + 1 : Nat) : Int) ≤ (j : Int)) = false := by simp; omega
      have hgN : decide (j + 1 ≤ j) = false := by simp
      have hqr := quo_of HJ.out hr
      have hj2 : j < 9223372036854775808 := by omega
      have ht0 : 0 < t := by omega
      have ht0n : ¬ t = 0 := by omega
      have hquo : (j : Int) / (t : Int) = (q : Int) := by rw [← hqr.1]; rfl
      have hrem : (j : Int) % (t : Int) = (r : Int) := by rw [← hqr.2]; rfl
      have htm : ((j : Int)).tmod (t : Int) = (r : Int) := by rw [tmod_nat16, hqr.2]
      have hwq : IntKind.i64.wrap (q : Int) = (q : Int) := wrapN (by omega)
      have hwr : IntKind.i64.wrap (r : Int) = (r : Int) := wrapN (by omega)
      obtain ⟨l, hl⟩ : ∃ l, t - r = l := ⟨_, rfl⟩
      rw [hl] at S
      have hw9 : IntKind.i64.wrap ((t : Int) - (r : Int)) = (l : Int) := by rw [show (t : Int) - (r : Int) = (l : Int) by omega]; exact wrapN (by omega)
      have HL : Hid (∀ V, Mods Nil wr V → Calls Try.prog 35 #[.pointer (some ⟨g, 0, none⟩)] V fun e V' => e = .returned (.int .i64 (l : Int)) ∧ Mods Nil wr V') := Lib.hid (fun V hV => ((S.out.nil hV).left_).mono fun e V' ⟨h1, _, h2⟩ => ⟨h1, hV.trans h2⟩)
      have HTP : Hid (∀ V, Mods Nil wr V → Calls Try.prog 36 #[.pointer (some ⟨g, 0, none⟩)] V fun e V' => e = .returned (.int .u64 ((0 : Nat) : Int)) ∧ Mods Nil wr V') := Lib.hid (fun V hV => ((S.out.nil hV).top_).mono fun e V' ⟨h1, _, h2⟩ => ⟨h1, hV.trans h2⟩)
      clear hgo hqr hl hqj hjk hr hk2 hj2 ht0 ht1600
      go_wp2_with fail
      refine gq_region (by kernel_rfl) (by kernel_rfl) ?_
      try simp only [Act.put, List.setIfInBounds_toArray, List.set_cons_zero, List.set_cons_succ]
      repeat (first
        | go_big_quiet_skip
        | (go_big_quiet_want; first
            | (refine gq_call HL.out ?_ ?_; (focus (intro V; go_simp; done)); go_big_quiet_on)
            | (refine gq_call HTP.out ?_ ?_; (focus (intro V; go_simp; done)); go_big_quiet_on)
            | (refine gq_op (v := ?_) ?_ ?_; rotate_left; (focus (intro V hV; go_simp; try with_reducible rfl)); go_big_quiet_on))
          simp only [Act.put, List.setIfInBounds_toArray, List.set_cons_zero, List.set_cons_succ])
      refine wpQuiet_nil ?_
      intro V hV
      have HV := Lib.hid (S.out.m.trans hV)
      clear hV
      go_wp2_with fail
      go_ret
      exact ⟨rfl, HV.out⟩
end Go.Proofs.Ytpabbhhaagfoeaa
