/- FrameOne's walk. -/
import Derived.Test.YtncmmiecfkfcgaaFrameBigWalk
import Derived.Deep.QuietTactic
import Derived.BigQuiet
namespace Go.Proofs.Ytncmmiecfkfcgaa
open Go.RowKit
set_option linter.unusedVariables false

/-- Behind c: what Get says of it, and of it cut. -/
structure OneOf (zs : List UInt8) (m : Nat) (at_ : Nat) (N t : Nat) : Prop where
  len : zs.length = m
  num : getN zs = N
  ok : getE zs = 0
  pos : 6 ≤ N
  le : N ≤ m
  cut : at_ % N = t
  short : getE (zs.take t) = 10
theorem oneOf {zs : List UInt8} (h : getE zs = 0) (at_ : Nat) : OneOf zs zs.length at_ (getN zs) (at_ % getN zs) :=
  ⟨rfl, rfl, h, getN_pos _, (getE_zero h).2.2.1, rfl, get_cut h (Nat.mod_lt _ (by have := getN_pos zs; omega))⟩

set_option maxRecDepth 100000 in
set_option maxHeartbeats 6400000 in
theorem frameOne_nat (w : World) {A : Option Addr} {c n : Nat} {xs : List UInt8} (hn : xs.length = n) (hs : Sl w A c (bts xs)) (own : Bool) (k : UInt8) (at_ : Nat) (hat : at_ < 65536) :
    Calls Try.prog 5 #[.slice A n c, .bool own, .int .u8 (k.toNat : Int), .int .u16 at_] w fun e w' => e = .returned (.bool true) ∧ Mods Nil w w' := by
  have hmx := hs.max
  have hle := hs.le
  unfold maxLen at hmx
  simp at hle
  by_cases hbig : 400 < n
  · have hb : (400 : Int) < (n : Int) := by omega
    clear hs
    go_enter Try.func5, Try.ntmps5
    go_wp2_with (first | (go_at_call 9; refine (awake_any _).mono ?_; rintro e w1 ⟨rfl, m1⟩; have M1 := Lib.hid m1; clear m1))
    go_ret
    exact ⟨rfl, M1.out⟩
  · have hb : (n : Int) ≤ 400 := by omega
    have hb' : n ≤ 400 := by omega
    have HN := Lib.hid hn
    have HS := Lib.hid hs
    cases own with
    | true =>
      obtain ⟨zs, hzs⟩ : ∃ zs, frameOf k xs = zs := ⟨_, rfl⟩
      obtain ⟨m, hm⟩ : ∃ m, zs.length = m := ⟨_, rfl⟩
      have hE : getE zs = 0 := by rw [← hzs]; exact (get_self (by omega)).1
      have HZ := Lib.hid hzs
      have HZM : Hid ((frameOf k xs).length = m) := by show _ = _; rw [hzs, hm]
      have HM := Lib.hid hm
      · have h1 := oneOf hE at_
        obtain ⟨N, hN⟩ : ∃ N, getN zs = N := ⟨_, rfl⟩
        obtain ⟨t, ht⟩ : ∃ t, at_ % N = t := ⟨_, rfl⟩
        rw [hN, ht, hm] at h1
        obtain ⟨hw1, hw2⟩ := of_get hE
        obtain ⟨kk, hkk⟩ : ∃ kk, getK zs = kk := ⟨_, rfl⟩
        obtain ⟨bb, hbb⟩ : ∃ bb, getB zs = bb := ⟨_, rfl⟩
        obtain ⟨bl, hbl⟩ : ∃ bl, bb.length = bl := ⟨_, rfl⟩
        rw [hkk, hbb, hN] at hw1
        rw [hbb, hbl] at hw2
        have GK : gotK zs = kk := by unfold gotK; rw [if_pos hE, hkk]
        have GB : gotB zs = bb := by unfold gotB; rw [if_pos hE, hbb]
        have GN : gotN zs = N := by unfold gotN; rw [if_pos hE, hN]
        have hFl : (frameOf kk bb).length = N := by rw [← hw1]; simp; have := h1.le; omega
        have hpos := h1.pos
        have hle2 := h1.le
        have H1 := Lib.hid h1
        have HW := Lib.hid hw1
        have HBL := Lib.hid hbl
        have HFL := Lib.hid hFl
        have HGK := Lib.hid GK
        have HGB := Lib.hid GB
        have HGN := Lib.hid GN
        have HE := Lib.hid hE
        have hN1 : (1 : Int) ≤ (N : Int) := by omega
        have hNm : (N : Int) ≤ (m : Int) := by omega
        have hN0 : (0 : Int) ≤ (N : Int) := by omega
        have hNe : ((N : Int) == 0) = false := by rw [beq_eq_false_iff_ne]; omega
        have htI : (at_ : Int) % (N : Int) = (t : Int) := by rw [← ht]; omega
        have htN : t < N := by rw [← ht]; exact Nat.mod_lt _ (by omega)
        have ht0 : (0 : Int) ≤ (t : Int) := by omega
        clear hN ht hkk hbb hbl hw1 GK GB GN hFl h1 hE hn hs hle hzs hm
        go_enter Try.func5, Try.ntmps5
        go_wp2_with (first
          | (go_at_call 9; refine (awake_any _).mono ?_; rintro e w1 ⟨rfl, m1⟩; have M1 := Lib.hid m1; have S1 := Lib.hid (HS.out.mods m1 (fun _ _ h => h)); clear m1)
          | (go_at_call_of 14 (Value.agg #[.int .u8 (k.toNat : Int), .slice A n c]); refine (fput_to HN.out (by omega) HZM.out S1.out).mono ?_; rintro e w0 ⟨A0, c0, rfl, s0, hc0, hcm0, -, m0⟩; rw [HZ.out] at s0; have S0 := Lib.hid s0; have M0 := Lib.hid (M1.out.trans m0); have hNc : (N : Int) ≤ (c0 : Int) := (by omega); have htc : (t : Int) ≤ (c0 : Int) := (by omega); unfold maxLen at hcm0; clear s0 m0)
          | (go_at_call_of 10 (Value.slice A0 m c0); refine (get_any HM.out S0.out).mono ?_; rintro e w2 ⟨A2, c2, he, s2, b2, m2⟩; rw [HE.out, HGK.out, HGB.out, HGN.out, HBL.out] at he; rw [HGB.out] at s2; subst he; have S2 := Lib.hid (s2.alloc (.cells #[.int .u8 (kk.toNat : Int), .slice A2 bl c2] 25)); obtain ⟨d0, d1, d2, d3⟩ := (Blk.new w2 25 #[.int .u8 (kk.toNat : Int), .slice A2 bl c2]).two; have M2' := Lib.hid (m2.alloc (.cells #[.int .u8 (kk.toNat : Int), .slice A2 bl c2] 25)); have M2 := Lib.hid ((M0.out.trans m2).alloc (.cells #[.int .u8 (kk.toNat : Int), .slice A2 bl c2] 25)); clear s2 b2 m2)
          | (go_at_call 14; refine (fput_to HBL.out hw2 HFL.out S2.out).mono ?_; rintro e w3 ⟨A3, c3, rfl, s3, -, -, -, m3⟩; have M3' := Lib.hid (M2'.out.trans m3); have M3 := Lib.hid (M2.out.trans m3); have S3 := Lib.hid s3; clear m3 s3))
        have s3 : Sl w3 A0 c0 (bts zs) := S0.out.mods M3'.out (fun _ _ h => h)
        have hst := s3.take N
        rw [bts_take, HW.out] at hst
        have htt : Sl w3 A0 c0 (bts (zs.take t)) := by have := s3.take t; rwa [bts_take] at this
        have q1 : ∀ nq, (convert 22 9 (.slice A3 N c3)).run Try.prog (w3.drewN nq) = .ok (.string (strOf (frameOf kk bb))) (w3.drewN nq) := fun nq => run_string_sl _ 22 5 Try.underlying22 Try.underlying5 A3 N c3 _ HFL.out (S3.out.drewN nq) 9 Try.underlying9
        have q2 : ∀ nq, (convert 22 9 (.slice A0 N c0)).run Try.prog (w3.drewN nq) = .ok (.string (strOf (frameOf kk bb))) (w3.drewN nq) := fun nq => run_string_sl _ 22 5 Try.underlying22 Try.underlying5 A0 N c0 _ HFL.out (hst.drewN nq) 9 Try.underlying9
        have HTT := Lib.hid htt
        have HTL := Lib.hid (show (zs.take t).length = t by have := HM.out; simp; omega)
        clear s3 hst htt
        go_quiet (fail)
        go_wp2_with (first
          | (go_at_call 10; refine (get_any HTL.out (HTT.out.drewN _)).mono ?_; rintro e w4 ⟨A4, c4, he, s4, b4, m4⟩; rw [H1.out.short] at he; subst he; have M4 := Lib.hid ((M3.out.drewN _).trans m4); clear s4 b4 m4))
        go_ret
        exact ⟨rfl, M4.out.alloc _⟩
    | false =>
      by_cases hE : getE xs = 0
      · have h1 := oneOf hE at_
        obtain ⟨N, hN⟩ : ∃ N, getN xs = N := ⟨_, rfl⟩
        obtain ⟨t, ht⟩ : ∃ t, at_ % N = t := ⟨_, rfl⟩
        rw [hN, ht, hn] at h1
        obtain ⟨hw1, hw2⟩ := of_get hE
        obtain ⟨kk, hkk⟩ : ∃ kk, getK xs = kk := ⟨_, rfl⟩
        obtain ⟨bb, hbb⟩ : ∃ bb, getB xs = bb := ⟨_, rfl⟩
        obtain ⟨bl, hbl⟩ : ∃ bl, bb.length = bl := ⟨_, rfl⟩
        rw [hkk, hbb, hN] at hw1
        rw [hbb, hbl] at hw2
        have GK : gotK xs = kk := by unfold gotK; rw [if_pos hE, hkk]
        have GB : gotB xs = bb := by unfold gotB; rw [if_pos hE, hbb]
        have GN : gotN xs = N := by unfold gotN; rw [if_pos hE, hN]
        have hFl : (frameOf kk bb).length = N := by rw [← hw1]; simp; have := h1.le; omega
        have hpos := h1.pos
        have hle2 := h1.le
        have H1 := Lib.hid h1
        have HW := Lib.hid hw1
        have HBL := Lib.hid hbl
        have HFL := Lib.hid hFl
        have HGK := Lib.hid GK
        have HGB := Lib.hid GB
        have HGN := Lib.hid GN
        have HE := Lib.hid hE
        have hN1 : (1 : Int) ≤ (N : Int) := by omega
        have hNn : (N : Int) ≤ (n : Int) := by omega
        have hNc : (N : Int) ≤ (c : Int) := by omega
        have hN0 : (0 : Int) ≤ (N : Int) := by omega
        have hNe : ((N : Int) == 0) = false := by rw [beq_eq_false_iff_ne]; omega
        have htI : (at_ : Int) % (N : Int) = (t : Int) := by rw [← ht]; omega
        have htN : t < N := by rw [← ht]; exact Nat.mod_lt _ (by omega)
        have ht0 : (0 : Int) ≤ (t : Int) := by omega
        have htc : (t : Int) ≤ (c : Int) := by omega
        clear hN ht hkk hbb hbl hw1 GK GB GN hFl h1 hE hn hs hle
        go_enter Try.func5, Try.ntmps5
        go_wp2_with (first
          | (go_at_call 9; refine (awake_any _).mono ?_; rintro e w1 ⟨rfl, m1⟩; have M1 := Lib.hid m1; have S1 := Lib.hid (HS.out.mods m1 (fun _ _ h => h)); clear m1)
          | (go_at_call_of 10 (Value.slice A n c); refine (get_any HN.out S1.out).mono ?_; rintro e w2 ⟨A2, c2, he, s2, b2, m2⟩; rw [HE.out, HGK.out, HGB.out, HGN.out, HBL.out] at he; rw [HGB.out] at s2; subst he; have S2 := Lib.hid (s2.alloc (.cells #[.int .u8 (kk.toNat : Int), .slice A2 bl c2] 25)); obtain ⟨d0, d1, d2, d3⟩ := (Blk.new w2 25 #[.int .u8 (kk.toNat : Int), .slice A2 bl c2]).two; have M2 := Lib.hid ((M1.out.trans m2).alloc (.cells #[.int .u8 (kk.toNat : Int), .slice A2 bl c2] 25)); clear s2 b2 m2)
          | (go_at_call 14; refine (fput_to HBL.out hw2 HFL.out S2.out).mono ?_; rintro e w3 ⟨A3, c3, rfl, s3, -, -, -, m3⟩; have M3 := Lib.hid (M2.out.trans m3); have S3 := Lib.hid s3; clear m3 s3))
        have s3 : Sl w3 A c (bts xs) := HS.out.mods M3.out (fun _ _ h => h)
        have hst := s3.take N
        rw [bts_take, HW.out] at hst
        have htt : Sl w3 A c (bts (xs.take t)) := by have := s3.take t; rwa [bts_take] at this
        have q1 : ∀ nq, (convert 22 9 (.slice A3 N c3)).run Try.prog (w3.drewN nq) = .ok (.string (strOf (frameOf kk bb))) (w3.drewN nq) := fun nq => run_string_sl _ 22 5 Try.underlying22 Try.underlying5 A3 N c3 _ HFL.out (S3.out.drewN nq) 9 Try.underlying9
        have q2 : ∀ nq, (convert 22 9 (.slice A N c)).run Try.prog (w3.drewN nq) = .ok (.string (strOf (frameOf kk bb))) (w3.drewN nq) := fun nq => run_string_sl _ 22 5 Try.underlying22 Try.underlying5 A N c _ HFL.out (hst.drewN nq) 9 Try.underlying9
        have HTT := Lib.hid htt
        have HTL := Lib.hid (show (xs.take t).length = t by have := HN.out; simp; omega)
        clear s3 hst htt
        go_quiet (fail)
        go_wp2_with (first
          | (go_at_call 10; refine (get_any HTL.out (HTT.out.drewN _)).mono ?_; rintro e w4 ⟨A4, c4, he, s4, b4, m4⟩; rw [H1.out.short] at he; subst he; have M4 := Lib.hid ((M3.out.drewN _).trans m4); clear s4 b4 m4))
        go_ret
        exact ⟨rfl, M4.out.alloc _⟩
      · obtain ⟨E, hEE⟩ : ∃ E, getE xs = E := ⟨_, rfl⟩
        have GB : gotB xs = [] := by unfold gotB; rw [if_neg hE]
        have GN : gotN xs = 0 := by unfold gotN; rw [if_neg hE]
        rw [hEE] at hE
        have HE := Lib.hid hEE
        have HGB := Lib.hid GB
        have HGN := Lib.hid GN
        have hb2 : (E != 0) = true := by simp [hE]
        have hb3 : (E == 0) = false := by simp [hE]
        clear hEE GB GN hE hs hn hle
        go_enter Try.func5, Try.ntmps5
        go_wp2_with (first
          | (go_at_call 9; refine (awake_any _).mono ?_; rintro e w1 ⟨rfl, m1⟩; have M1 := Lib.hid m1; have S1 := Lib.hid (HS.out.mods m1 (fun _ _ h => h)); clear m1)
          | (go_at_call 10; refine (get_any HN.out S1.out).mono ?_; rintro e w2 ⟨A2, c2, he, s2, b2, m2⟩; rw [HE.out, HGB.out, HGN.out] at he; subst he; obtain ⟨d0, d1, d2, d3⟩ := (Blk.new w2 25 #[.int .u8 ((gotK xs).toNat : Int), .slice A2 0 c2]).two; have M2 := Lib.hid (M1.out.trans m2); clear s2 b2 m2))
        go_ret
        exact ⟨rfl, M2.out.alloc _⟩
theorem frameOne_walk (w : World) {A : Option Addr} {c n : Nat} {xs : List UInt8} (hn : xs.length = n) (hs : Sl w A c (bts xs)) (a1 : Bool) {a2 : Int} (w2 : (Lit.int .u8 a2).wf = true) {a3 : Int} (w3 : (Lit.int .u16 a3).wf = true) :
    Calls Try.prog 5 #[.slice A n c, .bool a1, .int .u8 a2, .int .u16 a3] w fun e w' => e = .returned (.bool true) ∧ Mods Nil w w' := by
  obtain ⟨k, rfl⟩ := u8_nat w2
  have h3 := u16_of_wf w3
  obtain ⟨n3, rfl⟩ := Int.eq_ofNat_of_zero_le h3.1
  exact frameOne_nat w hn hs a1 k n3 (by omega)
end Go.Proofs.Ytncmmiecfkfcgaa
