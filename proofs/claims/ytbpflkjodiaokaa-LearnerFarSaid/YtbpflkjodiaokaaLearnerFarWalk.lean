/- LearnerFar: a slot far behind is known alone. -/
import Derived.Test.YtbpflkjodiaokaaAwake14
import Derived.Test.YtbpflkjodiaokaaOpen
namespace Go.Proofs.Ytbpflkjodiaokaa
set_option maxRecDepth 1000000
open Go.RowKit
set_option linter.unusedVariables false
set_option linter.unusedSimpArgs false
theorem one_look (s : Nat) (v : List UInt8) (t : Nat) : lookL [(s, v)] t = if s = t then some v else none := by rw [lookL_cons, lookL_nil]
theorem one_gapsTo (s : Nat) (v : List UInt8) : ∀ n, n ≤ s → gapsTo [(s, v)] n = List.range n
  | 0, _ => rfl
  | n + 1, h => by rw [gapsTo_succ, one_look, if_neg (show ¬ s = n by omega), if_pos rfl, one_gapsTo s v n (by omega), List.range_succ]
theorem one_gaps (s : Nat) (v : List UInt8) (m : Nat) : gapsL [(s, v)] m = List.range (min m s) := by
  have h : topL [(s, v)] = s + 1 := by simp [topL]
  unfold gapsL
  rw [h, gapsTo_succ, one_look, if_pos rfl, if_neg (by simp), one_gapsTo s v s (Nat.le_refl _), List.take_range]
theorem one_from (s : Nat) (v : List UInt8) : (fromL [(s, v)] s 5).length = 1 := by
  simp [fromL, one_look]
theorem one_next {s : Nat} {v : List UInt8} {r : Nat} (h : nextP [(s, v)] r) : r = if s = 0 then 1 else 0 := by
  by_cases h0 : s = 0
  · subst h0
    rw [if_pos rfl]
    refine nextP_one h ⟨fun m hm => ?_, by rw [one_look, if_neg (by omega)]⟩
    obtain rfl : m = 0 := by omega
    rw [one_look, if_pos rfl]; rfl
  · rw [if_neg h0]
    exact nextP_one h ⟨fun m hm => by omega, by rw [one_look, if_neg h0]⟩
set_option maxHeartbeats 6400000 in
theorem learnerFar_walk (w : World) {si : Int} (ws : (Lit.int .u64 si).wf = true) {mi : Int} (wm : (Lit.int .u8 mi).wf = true) :
    Calls Try.prog 6 #[.int .u64 si, .int .u8 mi] w fun e w' => e = .returned (.bool true) ∧ Mods Nil w w' := by
  have hs0 := u64_of_wf ws
  have hm0 := u8_of_wf wm
  obtain ⟨s, rfl⟩ : ∃ s : Nat, si = (s : Int) := ⟨si.toNat, by omega⟩
  obtain ⟨m, rfl⟩ : ∃ m : Nat, mi = (m : Int) := ⟨mi.toNat, by omega⟩
  have hs1 : s < 18446744073709551616 := by omega
  have hm1 : m < 256 := by omega
  clear ws wm hs0 hm0
  have hcv := fun (w : World) (C : Array Value) (n c : Nat) => Lib.run_convert_bytes_const (P := Try.prog) w 28 5 C n c Try.underlying28 Try.underlying5
  by_cases hmax : s = 18446744073709551615
  · have hE : Hid (learnE [] s [120] = 37) := Lib.hid (by unfold learnE; rw [if_pos hmax])
    have hL : Hid (learnL [] s [120] = []) := Lib.hid (by unfold learnL; rw [if_pos hmax])
    have hmI : ((s : Int) == 18446744073709551615) = true := by subst hmax; rfl
    clear hmax
    go_enter Try.func6, Try.ntmps6
    go_wp2_with (first
      | (go_at_call 7; refine (awake14_any _).mono ?_; rintro e w1 ⟨rfl, m1⟩; have M1 := Lib.hid m1; clear m1)
      | (go_at_call 8; refine (lrn_new _).mono ?_; rintro e w2 ⟨b, rfl, s2⟩; have S2 := Lib.hid s2; clear s2)
      | (go_at_call 9; refine ((S2.out.nil ((Mods.refl Nil w2).alloc _)).learn (v := [120]) (n := 1) (by omega) hs1 rfl (by omega) (build_at (n := 1) rfl rfl rfl (by simp [maxLen]))).mono ?_; rintro e w3 ⟨he, s3, _⟩; rw [hE.out] at he; rw [hL.out] at s3; subst he; have S3 := Lib.hid s3; clear s3 S2)
      | (go_at_call 13; refine (S3.out.top_ (by omega)).mono ?_; rintro e w4 ⟨he, m4⟩; replace he : e = .returned (.int .u64 0) := he; subst he; have S4 := Lib.hid (S3.out.nil m4); clear m4))
    go_ret
    exact ⟨rfl, M1.out.trans S4.out.m⟩
  · have hE : Hid (learnE [] s [120] = 0) := Lib.hid (by unfold learnE; rw [if_neg hmax, lookL_nil])
    have hL : Hid (learnL [] s [120] = [(s, [120])]) := Lib.hid (by unfold learnL; rw [if_neg hmax, lookL_nil]; rfl)
    have hmI : ((s : Int) == 18446744073709551615) = false := by simp; omega
    have hT : Hid (topL [(s, [120])] = s + 1) := Lib.hid (by simp [topL])
    have hw1 : IntKind.u64.wrap ((s : Int) + 1) = (s : Int) + 1 := by rw [IntKind.wrap_u64]; omega
    have hwm : IntKind.i64.wrap (m : Int) = (m : Int) := by rw [IntKind.wrap_i64]; omega
    have hwm2 : IntKind.u64.wrap (m : Int) = (m : Int) := by rw [IntKind.wrap_u64]; omega
    obtain ⟨k, hk⟩ : ∃ k, min m s = k := ⟨_, rfl⟩
    have hG : Hid (gapsL [(s, [120])] m = List.range k) := Lib.hid (by rw [one_gaps, hk])
    have hk256 : k < 256 := by omega
    rcases Nat.lt_or_ge s m with hsm | hsm
    · have hsmI : (s : Int) < (m : Int) := by omega
      have hks : k = s := by omega
      have hne : ((k : Int) != (s : Int)) = false := by subst hks; simp
      clear hk hks
      go_enter Try.func6, Try.ntmps6
      go_wp2_with (first
        | (go_at_call 7; refine (awake14_any _).mono ?_; rintro e w1 ⟨rfl, m1⟩; have M1 := Lib.hid m1; clear m1)
        | (go_at_call 8; refine (lrn_new _).mono ?_; rintro e w2 ⟨b, rfl, s2⟩; have S2 := Lib.hid s2; clear s2)
        | (go_at_call 9; refine ((S2.out.nil ((Mods.refl Nil w2).alloc _)).learn (v := [120]) (n := 1) (by omega) hs1 rfl (by omega) (build_at (n := 1) rfl rfl rfl (by simp [maxLen]))).mono ?_; rintro e w3 ⟨he, s3, _⟩; rw [hE.out] at he; rw [hL.out] at s3; subst he; have S3 := Lib.hid s3; clear s3 S2)
        | (go_at_call 13; refine (S3.out.top_ (by omega)).mono ?_; rintro e w4 ⟨he, m4⟩; rw [hT.out] at he; subst he; have S4 := Lib.hid (S3.out.nil m4); clear m4)
        | (go_at_call 16; refine (S4.out.gaps (most := (m : Int)) (by omega) (by omega) (by omega)).mono ?_; rintro e w5 ⟨A5, c5, n5, rfl, l5, s5, _, m5⟩; rw [Int.toNat_natCast, hG.out] at l5 s5; rw [List.length_range] at l5; subst l5; have S5 := Lib.hid (S4.out.nil m5); have Z5 := Lib.hid s5; clear s5 m5))
      go_loopw [10] (fun y wr => ∃ j : Nat, y = .int .i64 (j : Int) ∧ j ≤ k ∧ wr = w5) (fun y _ => k - (intOf y).toNat)
      case atStart => exact ⟨0, rfl, Nat.zero_le _, rfl⟩
      case round =>
        obtain ⟨j, rfl, hj, rfl⟩ := hrel
        by_cases hlt : j < k
        · have hltI : (j : Int) < (k : Int) := by omega
          obtain ⟨bb, oo, rfl, _, hz⟩ := Z5.out.at_ (by simp [nums]; omega)
          have z := hz j (.int .u64 (j : Int)) (by simp [nums, List.getElem?_range, hlt])
          have hwj : IntKind.u64.wrap (j : Int) = (j : Int) := by rw [IntKind.wrap_u64]; omega
          clear hz
          go_wp2_with fail
          refine ⟨⟨j + 1, by go_num, by omega, trivial⟩, by simp [intOf]; omega⟩
        · obtain rfl : k = j := by omega
          obtain ⟨r, hr⟩ : ∃ r, (if s = 0 then 1 else 0) = r := ⟨_, rfl⟩
          by_cases h0 : s = 0
          · have h0I : ((s : Int) == 0) = true := by subst h0; rfl
            have hr1 : r = 1 := by rw [← hr, if_pos h0]
            have HR := Lib.hid (hr.trans hr1)
            clear hr hr1 h0
            go_wp2_with (first
              | (go_at_call 11; refine (S5.out.next (by omega)).mono ?_; rintro e w6 ⟨r6, rfl, n6, _, m6⟩; obtain rfl : r6 = 1 := (by rw [one_next n6]; exact HR.out); have S6 := Lib.hid (S5.out.nil m6); clear m6 n6)
              | (go_at_call 20; refine (S6.out.from_ (s := s) (most := 5) (by omega) hs1 (by omega) (by omega)).mono ?_; rintro e w7 ⟨A7, c7, n7, R7, rfl, f7, m7⟩; have M7 := Lib.hid m7; obtain rfl : n7 = 1 := (by rw [← f7.len]; have := congrArg List.length f7.val; rw [List.length_map] at this; rw [this]; exact one_from s [120]); clear f7 m7))
            go_ret
            exact ⟨rfl, M1.out.trans (S6.out.m.trans M7.out)⟩
          · have h0I : ((s : Int) == 0) = false := by simp; omega
            have hr1 : r = 0 := by rw [← hr, if_neg h0]
            have HR := Lib.hid (hr.trans hr1)
            clear hr hr1 h0
            go_wp2_with (first
              | (go_at_call 11; refine (S5.out.next (by omega)).mono ?_; rintro e w6 ⟨r6, rfl, n6, _, m6⟩; obtain rfl : r6 = 0 := (by rw [one_next n6]; exact HR.out); have S6 := Lib.hid (S5.out.nil m6); clear m6 n6)
              | (go_at_call 20; refine (S6.out.from_ (s := s) (most := 5) (by omega) hs1 (by omega) (by omega)).mono ?_; rintro e w7 ⟨A7, c7, n7, R7, rfl, f7, m7⟩; have M7 := Lib.hid m7; obtain rfl : n7 = 1 := (by rw [← f7.len]; have := congrArg List.length f7.val; rw [List.length_map] at this; rw [this]; exact one_from s [120]); clear f7 m7))
            go_ret
            exact ⟨rfl, M1.out.trans (S6.out.m.trans M7.out)⟩
    · have hsmI : ¬ (s : Int) < (m : Int) := by omega
      have hks : k = m := by omega
      have hne : ((k : Int) != (m : Int)) = false := by subst hks; simp
      clear hk hks
      go_enter Try.func6, Try.ntmps6
      go_wp2_with (first
        | (go_at_call 7; refine (awake14_any _).mono ?_; rintro e w1 ⟨rfl, m1⟩; have M1 := Lib.hid m1; clear m1)
        | (go_at_call 8; refine (lrn_new _).mono ?_; rintro e w2 ⟨b, rfl, s2⟩; have S2 := Lib.hid s2; clear s2)
        | (go_at_call 9; refine ((S2.out.nil ((Mods.refl Nil w2).alloc _)).learn (v := [120]) (n := 1) (by omega) hs1 rfl (by omega) (build_at (n := 1) rfl rfl rfl (by simp [maxLen]))).mono ?_; rintro e w3 ⟨he, s3, _⟩; rw [hE.out] at he; rw [hL.out] at s3; subst he; have S3 := Lib.hid s3; clear s3 S2)
        | (go_at_call 13; refine (S3.out.top_ (by omega)).mono ?_; rintro e w4 ⟨he, m4⟩; rw [hT.out] at he; subst he; have S4 := Lib.hid (S3.out.nil m4); clear m4)
        | (go_at_call 16; refine (S4.out.gaps (most := (m : Int)) (by omega) (by omega) (by omega)).mono ?_; rintro e w5 ⟨A5, c5, n5, rfl, l5, s5, _, m5⟩; rw [Int.toNat_natCast, hG.out] at l5 s5; rw [List.length_range] at l5; subst l5; have S5 := Lib.hid (S4.out.nil m5); have Z5 := Lib.hid s5; clear s5 m5))
      go_loopw [10] (fun y wr => ∃ j : Nat, y = .int .i64 (j : Int) ∧ j ≤ k ∧ wr = w5) (fun y _ => k - (intOf y).toNat)
      case atStart => exact ⟨0, rfl, Nat.zero_le _, rfl⟩
      case round =>
        obtain ⟨j, rfl, hj, rfl⟩ := hrel
        by_cases hlt : j < k
        · have hltI : (j : Int) < (k : Int) := by omega
          obtain ⟨bb, oo, rfl, _, hz⟩ := Z5.out.at_ (by simp [nums]; omega)
          have z := hz j (.int .u64 (j : Int)) (by simp [nums, List.getElem?_range, hlt])
          have hwj : IntKind.u64.wrap (j : Int) = (j : Int) := by rw [IntKind.wrap_u64]; omega
          clear hz
          go_wp2_with fail
          refine ⟨⟨j + 1, by go_num, by omega, trivial⟩, by simp [intOf]; omega⟩
        · obtain rfl : k = j := by omega
          obtain ⟨r, hr⟩ : ∃ r, (if s = 0 then 1 else 0) = r := ⟨_, rfl⟩
          by_cases h0 : s = 0
          · have h0I : ((s : Int) == 0) = true := by subst h0; rfl
            have hr1 : r = 1 := by rw [← hr, if_pos h0]
            have HR := Lib.hid (hr.trans hr1)
            clear hr hr1 h0
            go_wp2_with (first
              | (go_at_call 11; refine (S5.out.next (by omega)).mono ?_; rintro e w6 ⟨r6, rfl, n6, _, m6⟩; obtain rfl : r6 = 1 := (by rw [one_next n6]; exact HR.out); have S6 := Lib.hid (S5.out.nil m6); clear m6 n6)
              | (go_at_call 20; refine (S6.out.from_ (s := s) (most := 5) (by omega) hs1 (by omega) (by omega)).mono ?_; rintro e w7 ⟨A7, c7, n7, R7, rfl, f7, m7⟩; have M7 := Lib.hid m7; obtain rfl : n7 = 1 := (by rw [← f7.len]; have := congrArg List.length f7.val; rw [List.length_map] at this; rw [this]; exact one_from s [120]); clear f7 m7))
            go_ret
            exact ⟨rfl, M1.out.trans (S6.out.m.trans M7.out)⟩
          · have h0I : ((s : Int) == 0) = false := by simp; omega
            have hr1 : r = 0 := by rw [← hr, if_neg h0]
            have HR := Lib.hid (hr.trans hr1)
            clear hr hr1 h0
            go_wp2_with (first
              | (go_at_call 11; refine (S5.out.next (by omega)).mono ?_; rintro e w6 ⟨r6, rfl, n6, _, m6⟩; obtain rfl : r6 = 0 := (by rw [one_next n6]; exact HR.out); have S6 := Lib.hid (S5.out.nil m6); clear m6 n6)
              | (go_at_call 20; refine (S6.out.from_ (s := s) (most := 5) (by omega) hs1 (by omega) (by omega)).mono ?_; rintro e w7 ⟨A7, c7, n7, R7, rfl, f7, m7⟩; have M7 := Lib.hid m7; obtain rfl : n7 = 1 := (by rw [← f7.len]; have := congrArg List.length f7.val; rw [List.length_map] at this; rw [this]; exact one_from s [120]); clear f7 m7))
            go_ret
            exact ⟨rfl, M1.out.trans (S6.out.m.trans M7.out)⟩
end Go.Proofs.Ytbpflkjodiaokaa
