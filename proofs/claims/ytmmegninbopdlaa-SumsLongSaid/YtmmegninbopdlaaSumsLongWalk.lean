/- SumsLong's walk. -/
import Derived.Test.YtmmegninbopdlaaAwake02
import Derived.Deep.QuietTactic
import Derived.BigQuiet
namespace Go.Proofs.Ytmmegninbopdlaa
open Go.RowKit
set_option linter.unusedVariables false

theorem sealedOf_length (ys : List UInt8) : (sealedOf ys).length = ys.length + 4 := by simp [sealedOf, fourOf]
theorem sealedOf_take (ys : List UInt8) : (sealedOf ys).take ys.length = ys := by simp [sealedOf]
theorem rightOf_sealed (ys : List UInt8) : rightOf (sealedOf ys) = true := by
  unfold rightOf
  rw [decide_eq_true_eq, sealedOf_length]
  exact ⟨by omega, by rw [Nat.add_sub_cancel, sealedOf_take]⟩

theorem sealed_to {w : World} {A : Option Addr} {c n m : Nat} {xs : List UInt8} (hn : xs.length = n) (hm : n + 4 = m) (hlim : m ≤ 140737488355328) (hs : Sl w A c (bts xs)) :
    Calls Try.prog 11 #[.slice A n c] w fun e w' => ∃ A' c', e = .returned (.slice A' m c') ∧ Sl w' A' c' (bts (sealedOf xs)) ∧ m ≤ c' ∧ c' ≤ maxLen ∧ (∀ a, A' = some a → w.heap.size ≤ a.block) ∧ Mods Nil w w' := by
  subst hm
  refine (sealed_any hn hlim hs).mono ?_
  rintro e w' ⟨v, rfl, o, m⟩
  obtain ⟨A', c', rfl, f, s, b⟩ := own_slice o
  exact ⟨A', c', rfl, s, by have := s.le; rw [bts_length, sealedOf_length] at this; omega, s.max, fun a ha => (b a ha).2, m⟩

set_option maxHeartbeats 1600000 in
theorem sumsLong_walk (w : World) {A : Option Addr} {c n : Nat} {xs : List UInt8} (hn : xs.length = n) (hs : Sl w A c (bts xs)) :
    Calls Try.prog 7 #[.slice A n c] w fun e w' => e = .returned (.bool true) ∧ Mods Nil w w' := by
  have hmx := hs.max
  have hle := hs.le
  unfold maxLen at hmx
  simp at hle
  by_cases hbig : 300 < n
  · have hb : (300 : Int) < (n : Int) := by omega
    clear hs
    go_enter Try.func7, Try.ntmps7
    go_wp2_with (first | (go_at_call 8; refine (awake_any _).mono ?_; rintro e w1 ⟨rfl, m1⟩; have M1 := Lib.hid m1; clear m1))
    go_ret
    exact ⟨rfl, M1.out⟩
  · have hb : (n : Int) ≤ 300 := by omega
    have hb' : n ≤ 300 := by omega
    obtain ⟨p, hp⟩ : ∃ p, n + 4 = p := ⟨_, rfl⟩
    obtain ⟨q, hq⟩ : ∃ q, p + 4 = q := ⟨_, rfl⟩
    have e1 : (sealedOf xs).length = p := by rw [sealedOf_length, hn, hp]
    have e2 : (sealedOf (sealedOf xs)).length = q := by rw [sealedOf_length, e1, hq]
    have e3 : (sealedOf (sealedOf xs)).take p = sealedOf xs := by rw [← e1, sealedOf_take]
    have e4 : (sealedOf (sealedOf xs)).take n = xs := by rw [show n = min n p by omega, ← List.take_take, e3, ← hn, sealedOf_take]
    have E1 := Lib.hid e1
    have E2 := Lib.hid e2
    have E3 := Lib.hid e3
    have E4 := Lib.hid e4
    have HS := Lib.hid hs
    have HN := Lib.hid hn
    have R1 := Lib.hid (rightOf_sealed (sealedOf xs))
    have R2 := Lib.hid (rightOf_sealed xs)
    have R3 := Lib.hid (fun h : n < 4 => rightOf_short (xs := xs) (by omega))
    have HP := Lib.hid hp
    have HQ := Lib.hid hq
    have hqp : (q : Int) - 4 = (p : Int) := by omega
    have h4q : (4 : Int) ≤ (q : Int) := by omega
    have hpq : (p : Int) ≤ (q : Int) := by omega
    have hnq : (n : Int) ≤ (q : Int) := by omega
    have hq8 : ((q : Int) == (n : Int) + 8) = true := by simp; omega
    clear hs hn hle e1 e2 e3 e4 hp hq
    by_cases hfew : n < 4
    · have hfI : (n : Int) < 4 := by omega
      go_enter Try.func7, Try.ntmps7
      go_wp2_with (first
        | (go_at_call 8; refine (awake_any _).mono ?_; rintro e w1 ⟨rfl, m1⟩; have M1 := Lib.hid m1; clear m1)
        | (go_at_call_of 11 (Value.slice A n c); refine (sealed_to HN.out HP.out (by have := HP.out; omega) (HS.out.mods M1.out (fun _ _ h => h))).mono ?_; rintro e w2 ⟨A2, c2, rfl, s2, _, _, _, m2⟩; have S2 := Lib.hid s2; have M2 := Lib.hid (M1.out.trans m2); clear s2 m2)
        | (go_at_call 11; refine (sealed_to E1.out HQ.out (by have := HP.out; have := HQ.out; omega) S2.out).mono ?_; rintro e w3 ⟨A3, c3, rfl, s3, hc3, hmx3, _, m3⟩; have S3 := Lib.hid s3; have M3 := Lib.hid (M2.out.trans m3); unfold maxLen at hmx3; clear s3 m3)
        | (go_at_call_of 13 (Value.slice A3 q c3); (refine (right_any E2.out S3.out).mono ?_; rintro e w4 ⟨he, m4⟩; rw [R1.out] at he; subst he; have M4 := Lib.hid (M3.out.trans m4); have S4 := Lib.hid (S3.out.mods m4 (fun _ _ h => h)); clear m4))
        | (go_at_call_of 13 (Value.slice A3 p c3); (refine (right_any (xs := sealedOf xs) E1.out (by have h := S4.out.take p; rw [bts_take, E3.out] at h; exact h)).mono ?_; rintro e w5 ⟨he, m5⟩; rw [R2.out] at he; subst he; have M5 := Lib.hid (M4.out.trans m5); have S5 := Lib.hid (S4.out.mods m5 (fun _ _ h => h)); clear m5))
        | (go_at_call_of 13 (Value.slice A n c); (refine (right_any HN.out (HS.out.mods M5.out (fun _ _ h => h))).mono ?_; rintro e w6 ⟨he, m6⟩; rw [R3.out hfew] at he; subst he; have M6 := Lib.hid (M5.out.trans m6); have S6 := Lib.hid (S5.out.mods m6 (fun _ _ h => h)); clear m6)))
      have t6 : Sl w6 A3 c3 (bts xs) := by have h := S6.out.take n; rw [bts_take, E4.out] at h; exact h
      have u6 : Sl w6 A c (bts xs) := HS.out.mods M6.out (fun _ _ h => h)
      have q1 : ∀ nq, (convert 23 9 (.slice A3 n c3)).run Try.prog (w6.drewN nq) = .ok (.string (strOf xs)) (w6.drewN nq) := fun nq => run_string_sl _ 23 5 Try.underlying23 Try.underlying5 A3 n c3 _ HN.out (t6.drewN nq) 9 Try.underlying9
      have q2 : ∀ nq, (convert 23 9 (.slice A n c)).run Try.prog (w6.drewN nq) = .ok (.string (strOf xs)) (w6.drewN nq) := fun nq => run_string_sl _ 23 5 Try.underlying23 Try.underlying5 A n c _ HN.out (u6.drewN nq) 9 Try.underlying9
      have hnI : (0 : Int) ≤ (n : Int) := by omega
      have hncI : (n : Int) ≤ (c3 : Int) := by have := HP.out; have := HQ.out; omega
      have hnc : n ≤ c3 := by omega
      clear t6 u6
      go_quiet (fail)
      go_wp2
      go_ret
      exact ⟨rfl, M6.out.drewN _⟩
    · have hfI : (4 : Int) ≤ (n : Int) := by omega
      go_enter Try.func7, Try.ntmps7
      go_wp2_with (first
        | (go_at_call 8; refine (awake_any _).mono ?_; rintro e w1 ⟨rfl, m1⟩; have M1 := Lib.hid m1; clear m1)
        | (go_at_call_of 11 (Value.slice A n c); refine (sealed_to HN.out HP.out (by have := HP.out; omega) (HS.out.mods M1.out (fun _ _ h => h))).mono ?_; rintro e w2 ⟨A2, c2, rfl, s2, _, _, _, m2⟩; have S2 := Lib.hid s2; have M2 := Lib.hid (M1.out.trans m2); clear s2 m2)
        | (go_at_call 11; refine (sealed_to E1.out HQ.out (by have := HP.out; have := HQ.out; omega) S2.out).mono ?_; rintro e w3 ⟨A3, c3, rfl, s3, hc3, hmx3, _, m3⟩; have S3 := Lib.hid s3; have M3 := Lib.hid (M2.out.trans m3); unfold maxLen at hmx3; clear s3 m3)
        | (go_at_call_of 13 (Value.slice A3 q c3); (refine (right_any E2.out S3.out).mono ?_; rintro e w4 ⟨he, m4⟩; rw [R1.out] at he; subst he; have M4 := Lib.hid (M3.out.trans m4); have S4 := Lib.hid (S3.out.mods m4 (fun _ _ h => h)); clear m4))
        | (go_at_call_of 13 (Value.slice A3 p c3); (refine (right_any (xs := sealedOf xs) E1.out (by have h := S4.out.take p; rw [bts_take, E3.out] at h; exact h)).mono ?_; rintro e w5 ⟨he, m5⟩; rw [R2.out] at he; subst he; have M5 := Lib.hid (M4.out.trans m5); have S5 := Lib.hid (S4.out.mods m5 (fun _ _ h => h)); clear m5)))
      have t6 : Sl w5 A3 c3 (bts xs) := by have h := S5.out.take n; rw [bts_take, E4.out] at h; exact h
      have u6 : Sl w5 A c (bts xs) := HS.out.mods M5.out (fun _ _ h => h)
      have q1 : ∀ nq, (convert 23 9 (.slice A3 n c3)).run Try.prog (w5.drewN nq) = .ok (.string (strOf xs)) (w5.drewN nq) := fun nq => run_string_sl _ 23 5 Try.underlying23 Try.underlying5 A3 n c3 _ HN.out (t6.drewN nq) 9 Try.underlying9
      have q2 : ∀ nq, (convert 23 9 (.slice A n c)).run Try.prog (w5.drewN nq) = .ok (.string (strOf xs)) (w5.drewN nq) := fun nq => run_string_sl _ 23 5 Try.underlying23 Try.underlying5 A n c _ HN.out (u6.drewN nq) 9 Try.underlying9
      have hnI : (0 : Int) ≤ (n : Int) := by omega
      have hncI : (n : Int) ≤ (c3 : Int) := by have := HP.out; have := HQ.out; omega
      have hnc : n ≤ c3 := by omega
      clear t6 u6
      go_quiet (fail)
      go_wp2
      go_ret
      exact ⟨rfl, M5.out.drewN _⟩
end Go.Proofs.Ytmmegninbopdlaa
