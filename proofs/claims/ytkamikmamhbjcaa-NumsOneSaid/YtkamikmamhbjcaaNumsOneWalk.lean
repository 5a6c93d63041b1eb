/- NumsOne's walk. -/
import Derived.Test.YtkamikmamhbjcaaAwake1
import Derived.Test.YtkamikmamhbjcaaPlain1
import Derived.Deep.QuietTactic
import Derived.BigQuiet
namespace Go.Proofs.Ytkamikmamhbjcaa
open Go.RowKit

set_option maxHeartbeats 800000 in
theorem numsOne_walk (w : World) {A : Option Addr} {c n : Nat} {xs : List UInt8} (hn : xs.length = n) (hs : Sl w A c (bts xs)) :
    Calls Try.prog 6 #[.slice A n c] w fun e w' => e = .returned (.bool true) ∧ Mods Nil w w' := by
  have hmx := hs.max
  have hle := hs.le
  unfold maxLen at hmx
  simp at hle
  by_cases hbig : 40 < n
  · have hb : (40 : Int) < (n : Int) := by omega
    clear hs
    go_enter Try.func6, Try.ntmps6
    go_wp2_with (first | (go_at_call 9; refine (awake_any _).mono ?_; rintro e w1 ⟨rfl, m1⟩; have M1 := Lib.hid m1; clear m1))
    go_ret
    exact ⟨rfl, M1.out⟩
  · have hb : ¬ (40 : Int) < (n : Int) := by omega
    have HS := Lib.hid hs
    have HN := Lib.hid hn
    obtain ⟨⟨err, ys, x⟩, hR⟩ : ∃ R, readUint 0 xs = R := ⟨_, rfl⟩
    have hx64 := valOf_lt64 xs 0
    rw [hR] at hx64
    simp only at hx64
    have HR := Lib.hid hR
    clear hs hn hR
    by_cases he : err = 0
    · subst he
      have hput := put_readUint HR.out
      have hol : (putU x).length ≤ n := by have := congrArg List.length hput; simp at this; have := HN.out; omega
      have hl9 := putU_length x hx64
      obtain ⟨m, hm⟩ : ∃ m, (putU x).length = m := ⟨_, rfl⟩
      have hmn : m ≤ n := by omega
      have hm9 : m ≤ 9 := by omega
      have hdec : decide ((m : Int) ≤ (n : Int)) = true := by simp; omega
      have HP := Lib.hid hput
      have HM := Lib.hid hm
      have hx64' : (x : Nat) < 18446744073709551616 := hx64
      have HX := Lib.hid hx64'
      clear hput hol hl9 hm hx64 hx64'
      go_enter Try.func6, Try.ntmps6
      go_wp2_with (first
        | (go_at_call 9; refine (awake_any _).mono ?_; rintro e w1 ⟨rfl, m1⟩; have M1 := Lib.hid m1; have S1 := Lib.hid (HS.out.mods m1 (fun _ _ h => h)); clear m1)
        | (go_at_call 17; refine (newReader_any HN.out (by have := HN.out; omega) S1.out).mono ?_; rintro e w2 ⟨g, k, rfl, h2, g2, k2, m2⟩; have H2 := Lib.hid h2; have G2 := Lib.hid (Nat.le_trans M1.out.size g2); have M2 := Lib.hid (M1.out.trans m2); clear h2 g2 k2 m2)
        | (go_at_call 18; refine (uint_any (by have := HN.out; omega) H2.out).mono ?_; rintro e w3 ⟨he, h3, m3⟩; simp only [HR.out] at he h3; subst he; have H3 := Lib.hid h3; have M3 := Lib.hid (M2.out.nil_trans m3 (fun i hi => by subst hi; exact G2.out)); clear h3 m3)
        | (go_at_call 24; refine (err_any H3.out).mono ?_; rintro e w4 ⟨rfl, rfl⟩)
        | (go_at_call 10; refine (newWriter_any _).mono ?_; rintro e w5 ⟨rfl, h5, m5⟩; have H5 := Lib.hid h5; have M5 := Lib.hid (M3.out.trans m5); clear h5 m5)
        | (go_at_call 11; refine (wuint_any x HX.out (by simp) H5.out).mono ?_; rintro e w6 ⟨rfl, v6, h6, k6⟩; have H6 := Lib.hid h6; have M6 := Lib.hid (Wrote.nil_trans M5.out k6 H5.out M3.out.size); clear h6 k6)
        | (go_at_call 15; refine (out_any (n := m) (by simpa using HM.out) (by have := HM.out; simp; omega) H6.out).mono ?_; rintro e w7 ⟨A7, c7, rfl, s7, b7, m7⟩; have S7 := Lib.hid s7; have M7 := Lib.hid (M6.out.trans m7); have T7 := Lib.hid (HS.out.mods M7.out (fun _ _ h => h)); clear s7 b7 m7))
      have eo : ([] ++ putU x : List UInt8) = putU x := rfl
      have kc1 : ∀ wq : World, Sl wq A7 c7 (bts (putU x)) → (convert 23 9 (.slice A7 m c7)).run Try.prog wq = .ok (.string (strOf (putU x))) wq := fun wq hq => run_string_sl wq 23 5 Try.underlying23 Try.underlying5 A7 m c7 _ HM.out hq 9 Try.underlying9
      have kc2 : ∀ wq : World, Sl wq A c (bts (putU x)) → (convert 23 9 (.slice A m c)).run Try.prog wq = .ok (.string (strOf (putU x))) wq := fun wq hq => run_string_sl wq 23 5 Try.underlying23 Try.underlying5 A m c _ HM.out hq 9 Try.underlying9
      have s7 : Sl w7 A7 c7 (bts (putU x)) := S7.out
      have t7 : Sl w7 A c (bts (putU x)) := by
        have := T7.out.take m
        rw [bts_take, HP.out, ← HM.out, List.take_left] at this
        exact this
      have q1 : ∀ nq, (convert 23 9 (.slice A7 m c7)).run Try.prog (w7.drewN nq) = .ok (.string (strOf (putU x))) (w7.drewN nq) := fun nq => kc1 _ (s7.drewN nq)
      have q2 : ∀ nq, (convert 23 9 (.slice A m c)).run Try.prog (w7.drewN nq) = .ok (.string (strOf (putU x))) (w7.drewN nq) := fun nq => kc2 _ (t7.drewN nq)
      have hmc : (m : Int) ≤ (c : Int) := by have := HN.out; omega
      have hmc' : m ≤ c := by omega
      have hm0 : (0 : Int) ≤ (m : Int) := by omega
      clear kc1 kc2 s7 t7 eo
      go_quiet (fail)
      go_wp2
      go_ret
      exact ⟨rfl, M7.out.drewN _⟩
    · have hb2 : (err != 0) = true := by simp [he]
      have hb3 : (err == 0) = false := by simp [he]
      have hx0 : x = 0 := by
        have := HR.out
        unfold readUint at this
        rw [if_neg (by simp)] at this
        split at this <;> simp_all
      subst hx0
      clear hx64
      go_enter Try.func6, Try.ntmps6
      go_wp2_with (first
        | (go_at_call 9; refine (awake_any _).mono ?_; rintro e w1 ⟨rfl, m1⟩; have M1 := Lib.hid m1; have S1 := Lib.hid (HS.out.mods m1 (fun _ _ h => h)); clear m1)
        | (go_at_call 17; refine (newReader_any HN.out (by have := HN.out; omega) S1.out).mono ?_; rintro e w2 ⟨g, k, rfl, h2, g2, k2, m2⟩; have H2 := Lib.hid h2; have G2 := Lib.hid (Nat.le_trans M1.out.size g2); have M2 := Lib.hid (M1.out.trans m2); clear h2 g2 k2 m2)
        | (go_at_call 18; refine (uint_any (by have := HN.out; omega) H2.out).mono ?_; rintro e w3 ⟨he, h3, m3⟩; simp only [HR.out] at he h3; subst he; have H3 := Lib.hid h3; have M3 := Lib.hid (M2.out.nil_trans m3 (fun i hi => by subst hi; exact G2.out)); clear h3 m3)
        | (go_at_call 24; refine (err_any H3.out).mono ?_; rintro e w4 ⟨rfl, rfl⟩))
      go_ret
      exact ⟨rfl, M3.out⟩
end Go.Proofs.Ytkamikmamhbjcaa
