/- NumsBytes's walk. -/
import Derived.Test.YtkamikmamhbjcaaAwake1
import Derived.Test.YtkamikmamhbjcaaPlain1
import Derived.Test.YtkamikmamhbjcaaOpen
namespace Go.Proofs.Ytkamikmamhbjcaa
open Go.RowKit

theorem readUint_putB {b more : List UInt8} (hb : b.length < 18446744073709551616) : readUint 0 (putB b ++ more) = (0, b ++ more, b.length) := by
  unfold putB
  rw [List.append_assoc, readUint_put hb]
theorem readBytes_big {b more : List UInt8} (hb : b.length < 18446744073709551616) (most : Int) (h : most < (b.length : Int)) : readBytes 0 (putB b ++ more) most = (13, [], []) := by
  unfold readBytes
  rw [readUint_putB hb]
  simp only
  rw [if_neg (by simp), if_pos (.inr h)]
theorem readBytes_ok {b more : List UInt8} (hb : b.length < 18446744073709551616) (most : Int) (h : (b.length : Int) ≤ most) : readBytes 0 (putB b ++ more) most = (0, more, b) := by
  unfold readBytes
  rw [readUint_putB hb]
  simp only
  rw [if_neg (by simp), if_neg (by omega)]
  unfold readRaw
  rw [if_neg (by simp), if_neg (by omega), if_neg (by simp; omega)]
  simp
theorem readRaw_all (more : List UInt8) : readRaw 0 more (more.length : Int) = (0, [], more) := by
  unfold readRaw
  rw [if_neg (by simp), if_neg (by omega), if_neg (by omega)]
  simp
theorem putB_length (b : List UInt8) (hb : b.length < 18446744073709551616) : (putB b).length ≤ b.length + 9 := by
  have := putU_length b.length hb
  simp [putB]; omega

set_option maxHeartbeats 1600000 in
theorem numsBytes_walk (w : World) {A : Option Addr} {c n : Nat} {xs : List UInt8} (hn : xs.length = n) (hs : Sl w A c (bts xs)) {most : Int} (hwf : (Lit.int .u16 most).wf = true) {A2 : Option Addr} {c2 n2 : Nat} {ys : List UInt8} (hn2 : ys.length = n2) (hs2 : Sl w A2 c2 (bts ys)) :
    Calls Try.prog 7 #[.slice A n c, .int .u16 most, .slice A2 n2 c2] w fun e w' => e = .returned (.bool true) ∧ Mods Nil w w' := by
  obtain ⟨hm0, hm1⟩ := u16_of_wf hwf
  have hmx := hs.max
  have hle := hs.le
  have hmx2 := hs2.max
  have hle2 := hs2.le
  unfold maxLen at hmx hmx2
  simp at hle hle2
  clear hwf
  by_cases hbig : 300 < n
  · have hb : decide ((300 : Int) < (n : Int)) = true := by simp; omega
    clear hs hs2
    go_enter Try.func7, Try.ntmps7
    go_wp2_with (first | (go_at_call 9; refine (awake_any _).mono ?_; rintro e w1 ⟨rfl, m1⟩; have M1 := Lib.hid m1; clear m1))
    go_ret
    exact ⟨rfl, M1.out⟩
  · have hb : decide ((300 : Int) < (n : Int)) = false := by simp; omega
    by_cases hbig2 : 50 < n2
    · have hb2 : (50 : Int) < (n2 : Int) := by omega
      clear hs hs2
      go_enter Try.func7, Try.ntmps7
      go_wp2_with (first | (go_at_call 9; refine (awake_any _).mono ?_; rintro e w1 ⟨rfl, m1⟩; have M1 := Lib.hid m1; clear m1))
      go_ret
      exact ⟨rfl, M1.out⟩
    · have hb2 : ¬ (50 : Int) < (n2 : Int) := by omega
      have HS := Lib.hid hs
      have HN := Lib.hid hn
      have HS2 := Lib.hid hs2
      have HN2 := Lib.hid hn2
      have hbl := putB_length xs (by omega)
      obtain ⟨L, hL⟩ : ∃ L, (putB xs ++ ys).length = L := ⟨_, rfl⟩
      have hL2 : L ≤ 360 := by rw [← hL]; simp; omega
      have HL := Lib.hid hL
      clear hs hs2 hn hn2 hL
      have hbl' := Lib.hid hbl
      clear hbl
      by_cases hmost : most < (n : Int)
      · have HR := Lib.hid (readBytes_big (b := xs) (more := ys) (by have := HN.out; omega) most (by have := HN.out; omega))
        go_enter Try.func7, Try.ntmps7
        go_wp2_with (first
          | (go_at_call 9; refine (awake_any _).mono ?_; rintro e w1 ⟨rfl, m1⟩; have M1 := Lib.hid m1; clear m1)
          | (go_at_call 10; refine (newWriter_any _).mono ?_; rintro e w2 ⟨rfl, h2, m2⟩; have H2 := Lib.hid h2; have M2 := Lib.hid (M1.out.trans m2); have Z2 := Lib.hid m2.size; clear h2 m2)
          | (go_at_call 13; refine (wbytes_any HN.out (by have := HN.out; simp; omega) H2.out (HS.out.mods M2.out (fun _ _ h => h)) (H2.out.apart M1.out.size HS.out)).mono ?_; rintro e w3 ⟨rfl, v3, h3, k3⟩; have H3 := Lib.hid h3; have M3 := Lib.hid (Wrote.nil_trans M2.out k3 H2.out M1.out.size); clear h3 k3)
          | (go_at_call 14; refine (wraw_any HN2.out (by have := HN2.out; have := HN.out; have := hbl'.out; simp; omega) H3.out (HS2.out.mods M3.out (fun _ _ h => h))).mono ?_; rintro e w4 ⟨rfl, v4, h4, k4⟩; have H4 := Lib.hid h4; have M4 := Lib.hid (Wrote.nil_trans M3.out k4 H3.out M1.out.size); clear h4 k4)
          | (go_at_call 15; refine (out_any (n := L) (by simpa using HL.out) (by have := HL.out; simp at this; simp; omega) H4.out).mono ?_; rintro e w5 ⟨A5, c5, rfl, s5, b5, m5⟩; have S5 := Lib.hid s5; have M5 := Lib.hid (M4.out.trans m5); clear s5 b5 m5)
          | (go_at_call 17; refine (newReader_any (n := L) (by simpa using HL.out) (by have := HL.out; simp at this; simp; omega) S5.out).mono ?_; rintro e w6 ⟨g, k, rfl, h6, g6, k6, m6⟩; have H6 := Lib.hid h6; have G6 := Lib.hid (Nat.le_trans M5.out.size g6); have M6 := Lib.hid (M5.out.trans m6); clear h6 g6 k6 m6)
          | (go_at_call 20; refine (bytes_any most (by omega) (by have := HL.out; simp at this; simp; omega) H6.out).mono ?_; rintro e w7 ⟨A7, c7, he, s7, f7, h7, m7⟩; simp only [List.nil_append, HR.out] at he s7 f7 h7; subst he; have H7 := Lib.hid h7; have M7 := Lib.hid (M6.out.nil_trans m7 (fun i hi => by subst hi; exact G6.out)); clear s7 f7 h7 m7)
          | (go_at_call 24; refine (err_any H7.out).mono ?_; rintro e w8 ⟨rfl, rfl⟩))
        --DBG
        go_ret
        exact ⟨rfl, M7.out⟩
      · have hme : (n : Int) ≤ most := by omega
        have HR := Lib.hid (readBytes_ok (b := xs) (more := ys) (by have := HN.out; omega) most (by have := HN.out; omega))
        have HR2 := Lib.hid (readRaw_all ys)
        have kc1 : ∀ wq : World, ∀ A c, Sl wq A c (bts xs) → (convert 23 9 (.slice A n c)).run Try.prog wq = .ok (.string (strOf xs)) wq := fun wq A c hq => run_string_sl wq 23 5 Try.underlying23 Try.underlying5 A n c _ HN.out hq 9 Try.underlying9
        have kc2 : ∀ wq : World, ∀ A c, Sl wq A c (bts ys) → (convert 23 9 (.slice A n2 c)).run Try.prog wq = .ok (.string (strOf ys)) wq := fun wq A c hq => run_string_sl wq 23 5 Try.underlying23 Try.underlying5 A n2 c _ HN2.out hq 9 Try.underlying9
        have KC1 := Lib.hid kc1
        have KC2 := Lib.hid kc2
        have hn2i : (0 : Int) ≤ (n2 : Int) := by omega
        clear kc1 kc2
        go_enter Try.func7, Try.ntmps7
        go_wp2_with (first
          | (go_at_call 9; refine (awake_any _).mono ?_; rintro e w1 ⟨rfl, m1⟩; have M1 := Lib.hid m1; clear m1)
          | (go_at_call 10; refine (newWriter_any _).mono ?_; rintro e w2 ⟨rfl, h2, m2⟩; have H2 := Lib.hid h2; have M2 := Lib.hid (M1.out.trans m2); have Z2 := Lib.hid m2.size; clear h2 m2)
          | (go_at_call 13; refine (wbytes_any HN.out (by have := HN.out; simp; omega) H2.out (HS.out.mods M2.out (fun _ _ h => h)) (H2.out.apart M1.out.size HS.out)).mono ?_; rintro e w3 ⟨rfl, v3, h3, k3⟩; have H3 := Lib.hid h3; have M3 := Lib.hid (Wrote.nil_trans M2.out k3 H2.out M1.out.size); clear h3 k3)
          | (go_at_call 14; refine (wraw_any HN2.out (by have := HN2.out; have := HN.out; have := hbl'.out; simp; omega) H3.out (HS2.out.mods M3.out (fun _ _ h => h))).mono ?_; rintro e w4 ⟨rfl, v4, h4, k4⟩; have H4 := Lib.hid h4; have M4 := Lib.hid (Wrote.nil_trans M3.out k4 H3.out M1.out.size); clear h4 k4)
          | (go_at_call 15; refine (out_any (n := L) (by simpa using HL.out) (by have := HL.out; simp at this; simp; omega) H4.out).mono ?_; rintro e w5 ⟨A5, c5, rfl, s5, b5, m5⟩; have S5 := Lib.hid s5; have M5 := Lib.hid (M4.out.trans m5); clear s5 b5 m5)
          | (go_at_call 17; refine (newReader_any (n := L) (by simpa using HL.out) (by have := HL.out; simp at this; simp; omega) S5.out).mono ?_; rintro e w6 ⟨g, k, rfl, h6, g6, k6, m6⟩; have H6 := Lib.hid h6; have G6 := Lib.hid (Nat.le_trans M5.out.size g6); have M6 := Lib.hid (M5.out.trans m6); clear h6 g6 k6 m6)
          | (go_at_call 20; refine (bytes_any most (by omega) (by have := HL.out; simp at this; simp; omega) H6.out).mono ?_; rintro e w7 ⟨A7, c7, he, s7, f7, h7, m7⟩; simp only [List.nil_append, HR.out] at he s7 f7 h7; rw [HN.out] at he; subst he; have H7 := Lib.hid h7; have S7 := Lib.hid s7; have F7 := Lib.hid f7; have M7 := Lib.hid (M6.out.nil_trans m7 (fun i hi => by subst hi; exact G6.out)); clear s7 f7 h7 m7)
          | (go_at_call 22; refine (raw_any (n2 : Int) (by have := HN2.out; omega) H7.out).mono ?_; rintro e w8 ⟨A8, c8, he, s8, f8, h8, m8⟩; rw [← HN2.out] at he s8 f8 h8; simp only [HR2.out] at he s8 f8 h8; rw [HN2.out] at he; subst he; have H8 := Lib.hid h8; have M8 := Lib.hid (M7.out.nil_trans m8 (fun i hi => by subst hi; exact G6.out)); have q1 := KC1.out w8 A7 c7 (S7.out.mods' m8 (fun hx => F7.out.off hx (fun q hq => by subst hq; exact H6.out.lt))); have q2 := KC1.out w8 A c (HS.out.mods M8.out (fun _ _ h => h)); have q3 := KC2.out w8 A8 c8 s8; have q4 := KC2.out w8 A2 c2 (HS2.out.mods M8.out (fun _ _ h => h)); clear s8 f8 h8 m8)
          | (go_at_call 25; refine (end_any H8.out).mono ?_; rintro e w9 ⟨rfl, rfl⟩))
        --DBG
        go_ret
        exact ⟨rfl, M8.out⟩
end Go.Proofs.Ytkamikmamhbjcaa
