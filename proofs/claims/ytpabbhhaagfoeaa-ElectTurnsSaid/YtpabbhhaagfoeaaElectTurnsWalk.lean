/- ElectTurns: without a word it stands each time its turn has gone by; of two nodes the lower one first; who hears one tick ahead of that doesn't. -/
import Derived.Test.YtpabbhhaagfoeaaHelp16
namespace Go.Proofs.Ytpabbhhaagfoeaa
set_option maxRecDepth 100000
open Go.RowKit
set_option linter.unusedVariables false
set_option linter.unusedSimpArgs false

/-- Three of them side by side. -/
structure T16 (W0 W : World) (ga gb gc t tb la lb lc tc : Nat) : Prop where
  a : ES W0 W ga t la 0
  b : ES W0 W gb tb lb 0
  c : ES W0 W gc t lc tc
  ab : ga ≠ gb
  ac : ga ≠ gc
  bc : gb ≠ gc
section
variable {W0 W : World} {ga gb gc t tb la lb lc tc : Nat} (h : T16 W0 W ga gb gc t tb la lb lc tc)
include h
theorem T16.tickA (hk : EOk t la) : Calls Try.prog 31 #[.pointer (some ⟨ga, 0, none⟩)] W fun e V => e = .returned (.bool (decide (la ≤ 1))) ∧ T16 W0 V ga gb gc t tb (eLeft t la) lb lc tc :=
  (h.a.tick hk).mono fun e V ⟨h1, h2, h3⟩ => ⟨h1, h2, h.b.other h2 (Ne.symm h.ab) h3, h.c.other h2 (Ne.symm h.ac) h3, h.ab, h.ac, h.bc⟩
theorem T16.tickB (hk : EOk tb lb) : Calls Try.prog 31 #[.pointer (some ⟨gb, 0, none⟩)] W fun e V => e = .returned (.bool (decide (lb ≤ 1))) ∧ T16 W0 V ga gb gc t tb la (eLeft tb lb) lc tc :=
  (h.b.tick hk).mono fun e V ⟨h1, h2, h3⟩ => ⟨h1, h.a.other h2 h.ab h3, h2, h.c.other h2 (Ne.symm h.bc) h3, h.ab, h.ac, h.bc⟩
theorem T16.tickC (hk : EOk t lc) : Calls Try.prog 31 #[.pointer (some ⟨gc, 0, none⟩)] W fun e V => e = .returned (.bool (decide (lc ≤ 1))) ∧ T16 W0 V ga gb gc t tb la lb (eLeft t lc) tc :=
  (h.c.tick hk).mono fun e V ⟨h1, h2, h3⟩ => ⟨h1, h.a.other h2 h.ac h3, h.b.other h2 h.bc h3, h2, h.ab, h.ac, h.bc⟩
theorem T16.leftC : Calls Try.prog 35 #[.pointer (some ⟨gc, 0, none⟩)] W fun e V => e = .returned (.int .i64 (lc : Int)) ∧ T16 W0 V ga gb gc t tb la lb lc tc :=
  (h.c.left_).mono fun e V ⟨h1, h2, h3⟩ => ⟨h1, h.a.nil h3, h.b.nil h3, h2, h.ab, h.ac, h.bc⟩
theorem T16.heardC {x : Nat} (hx : tc ≤ x) : Calls Try.prog 33 #[.pointer (some ⟨gc, 0, none⟩), .int .u64 (x : Int)] W fun e V => e = .returned (.bool true) ∧ T16 W0 V ga gb gc t tb la lb t x :=
  (h.c.heard hx).mono fun e V ⟨h1, h2, h3⟩ => ⟨h1, h.a.other h2 h.ac h3, h.b.other h2 h.bc h3, h2, h.ab, h.ac, h.bc⟩
end

/-- A tick of one that heard nothing, whether or not it stands. -/
theorem quiet_step {t q r j : Nat} (hj : j = t * q + r) (hr : r < t) : ∃ (s : Bool) (q' r' : Nat), decide (t - r ≤ 1) = s ∧ eLeft t (t - r) = t - r' ∧ j + 1 = t * q' + r' ∧ r' < t ∧ (j + 1) % t = r' ∧ ((r' : Int) == 0) = s ∧ (s = true → t ≤ j + 1) ∧ (decide (t ≤ j) || s) = decide (t ≤ j + 1) := by
  by_cases hre : r + 1 = t
  · have h := quiet_yes hre
    have h1 : j + 1 = t * (q + 1) + 0 := by rw [Nat.mul_succ]; omega
    have h2 : t ≤ j + 1 := by rw [h1, Nat.mul_succ]; have := Nat.zero_le (t * q); omega
    refine ⟨true, q + 1, 0, h.2, h.1, h1, by omega, (quo_of h1 (by omega)).2, rfl, fun _ => h2, ?_⟩
    rw [Bool.or_true]; simp [h2]
  · have h := quiet_no (show r + 1 < t by omega)
    have h1 : j + 1 = t * q + (r + 1) := by omega
    refine ⟨false, q, r + 1, h.2, h.1, h1, by omega, (quo_of h1 (by omega)).2, by rw [beq_eq_false_iff_ne]; omega, fun h => (by cases h), ?_⟩
    rw [Bool.or_false, Bool.eq_iff_iff, decide_eq_true_iff, decide_eq_true_iff]
    refine ⟨fun h => by omega, fun h => ?_⟩
    cases q with
    | zero => rw [Nat.mul_zero] at hj; omega
    | succ q => rw [Nat.mul_succ] at hj; have := Nat.zero_le (t * q); omega

theorem bools16 : ∀ {f0 s f1 sb u d1 e1 : Bool}, (f0 || s) = f1 → (sb = true → f1 = true) → (u = true → d1 = false) → (d1 = false → e1 = true) → (d1 = false → u = true) → (((f0 || s) == f1) && (!sb || f1) && (!u || !d1) && (d1 || e1) && (d1 || u)) = true := by
  intro f0 s f1 sb u d1 e1 h1 h2 h3 h4 h5
  subst h1
  cases f0 <;> cases s <;> cases sb <;> cases u <;> cases d1 <;> cases e1 <;> first | rfl | exact absurd (h2 rfl) (by decide) | exact absurd (h3 rfl) (by decide) | exact absurd (h4 rfl) (by decide) | exact absurd (h5 rfl) (by decide)

set_option maxHeartbeats 12800000 in
theorem electTurns_walk (w : World) {ai : Int} (wa : (Lit.int .u8 ai).wf = true) {bi : Int} (wb : (Lit.int .u8 bi).wf = true) {ci : Int} (wc : (Lit.int .u8 ci).wf = true) :
    Calls Try.prog 5 #[.int .u8 ai, .int .u8 bi, .int .u8 ci] w fun e w' => e = .returned (.bool true) ∧ Mods Nil w w' := by
  have ha0 := u8_of_wf wa
  have hb0 := u8_of_wf wb
  have hc0 := u8_of_wf wc
  obtain ⟨a, rfl⟩ : ∃ a : Nat, ai = (a : Int) := ⟨ai.toNat, by omega⟩
  obtain ⟨b, rfl⟩ : ∃ b : Nat, bi = (b : Int) := ⟨bi.toNat, by omega⟩
  obtain ⟨c, rfl⟩ : ∃ c : Nat, ci = (c : Int) := ⟨ci.toNat, by omega⟩
  have hra := tmod_nat16 a 5
  have hrb := tmod_nat16 b 6
  have hrc := tmod_nat16 c 4
  obtain ⟨n, hn⟩ : ∃ n, a % 5 = n := ⟨_, rfl⟩
  obtain ⟨p', hp'⟩ : ∃ p, b % 6 = p := ⟨_, rfl⟩
  obtain ⟨k', hk'⟩ : ∃ k, c % 4 = k := ⟨_, rfl⟩
  obtain ⟨p, hp⟩ : ∃ p, p' + 1 = p := ⟨_, rfl⟩
  obtain ⟨k1, hk1⟩ : ∃ k, k' + 1 = k := ⟨_, rfl⟩
  obtain ⟨n1, hn1⟩ : ∃ x, n + 1 = x := ⟨_, rfl⟩
  rw [hn] at hra
  rw [hp'] at hrb
  rw [hk'] at hrc
  have hra' : ((a : Int)).tmod 5 = (n : Int) := hra
  have hrb' : ((b : Int)).tmod 6 = (p' : Int) := hrb
  have hrc' : ((c : Int)).tmod 4 = (k' : Int) := hrc
  have hn4 : n ≤ 4 := by omega
  have hp6 : p ≤ 6 := by omega
  have hp1 : 1 ≤ p := by omega
  have hk4 : k1 ≤ 4 := by omega
  have hu1 : IntKind.u8.wrap (n : Int) = (n : Int) := by rw [IntKind.wrap_u8]; omega
  have hu2 : IntKind.u8.wrap (p' : Int) = (p' : Int) := by rw [IntKind.wrap_u8]; omega
  have hu3 : IntKind.u8.wrap (k' : Int) = (k' : Int) := by rw [IntKind.wrap_u8]; omega
  have hw1 : IntKind.i64.wrap (n : Int) = (n : Int) := wrapN (by omega)
  have hw2 : IntKind.i64.wrap (p' : Int) = (p' : Int) := wrapN (by omega)
  have hw3 : IntKind.i64.wrap (k' : Int) = (k' : Int) := wrapN (by omega)
  have hw4 : IntKind.i64.wrap ((p' : Int) + 1) = (p : Int) := by rw [show (p' : Int) + 1 = (p : Int) by omega]; exact wrapN (by omega)
  have hw5 : IntKind.i64.wrap ((n : Int) + 1) = (n1 : Int) := by rw [show (n : Int) + 1 = (n1 : Int) by omega]; exact wrapN (by omega)
  have hw6 : IntKind.i64.wrap ((k' : Int) + 1) = (k1 : Int) := by rw [show (k' : Int) + 1 = (k1 : Int) by omega]; exact wrapN (by omega)
  have hT : p * (n + 1) ≤ 30 := Nat.le_trans (Nat.mul_le_mul hp6 (Nat.succ_le_succ hn4)) (by decide)
  have hTB : p * (n1 + 1) ≤ 36 := Nat.le_trans (Nat.mul_le_mul hp6 (show n1 + 1 ≤ 6 by omega)) (by decide)
  have hT1 : 1 ≤ p * (n + 1) := Nat.mul_pos (by omega) (by omega)
  have hTT : p * (n1 + 1) = p * (n + 1) + p := by rw [Nat.mul_succ, hn1]
  have hcast : ((p * (n + 1) : Nat) : Int) = (p : Int) * (n1 : Int) := by rw [hn1]; simp
  have HNA : Hid (∀ W, Mods Nil w W → Calls Try.prog 29 #[.int .i64 (n : Int), .int .i64 (p : Int)] W fun e V => ∃ b, e = .returned (.tuple #[.pointer (some ⟨b, 0, none⟩), .int .i64 0]) ∧ ES w V b (p * (n + 1)) (p * (n + 1)) 0 ∧ W.heap.size ≤ b ∧ Mods Nil W V) := Lib.hid (fun W hW => es_new hW (by omega) hp1 (by omega))
  have HNB : Hid (∀ W, Mods Nil w W → Calls Try.prog 29 #[.int .i64 (n1 : Int), .int .i64 (p : Int)] W fun e V => ∃ b, e = .returned (.tuple #[.pointer (some ⟨b, 0, none⟩), .int .i64 0]) ∧ ES w V b (p * (n1 + 1)) (p * (n1 + 1)) 0 ∧ W.heap.size ≤ b ∧ Mods Nil W V) := Lib.hid (fun W hW => es_new hW (by omega) hp1 (by omega))
  obtain ⟨t, ht⟩ : ∃ t, p * (n + 1) = t := ⟨_, rfl⟩
  obtain ⟨tb, htb⟩ : ∃ t, p * (n1 + 1) = t := ⟨_, rfl⟩
  rw [ht] at hcast hT1 HNA hT hTT
  rw [htb] at hTB HNB hTT
  have hK : t * k1 ≤ 120 := Nat.le_trans (Nat.mul_le_mul hT hk4) (by decide)
  have hcastK : ((t * k1 : Nat) : Int) = (t : Int) * (k1 : Int) := by simp
  obtain ⟨K, hKe⟩ : ∃ K, t * k1 = K := ⟨_, rfl⟩
  rw [hKe] at hK hcastK
  have hw7 : IntKind.i64.wrap ((p : Int) * (n1 : Int)) = (t : Int) := by rw [← hcast]; exact wrapN (by omega)
  have hw8 : IntKind.i64.wrap ((t : Int) * (k1 : Int)) = (K : Int) := by rw [← hcastK]; exact wrapN (by omega)
  have HTB : Hid (t < tb ∧ tb ≤ 36 ∧ t ≤ 30 ∧ 1 ≤ t) := Lib.hid (by omega)
  clear wa wb wc ha0 hb0 hc0 hn hp' hk' hp hk1 hn1 hra hrb hrc hT hTB hTT hcast ht htb hcastK hKe
  go_enter Try.func5, Try.ntmps5
  go_wp2_with (first
    | (go_at_call 28; refine (awake16_any _).mono ?_; rintro e w1 ⟨rfl, m1⟩; have M1 := Lib.hid m1; clear m1)
    | (go_at_call 29; have hx := SB.out; clear hx; refine (HNA.out _ SB.out.m).mono ?_; rintro e w4 ⟨gc, rfl, s4, z4, m4⟩; have S4 : Hid (T16 w w4 ga gb gc t tb t tb t 0) := Lib.hid ⟨SA.out.nil m4, SB.out.nil m4, s4, HAB.out, (by have := SA.out.a.lt; omega), (by have := SB.out.a.lt; omega)⟩; clear s4 m4 SA SB z4)
    | (go_at_call 29; have hx := SA1.out; clear hx; refine (HNB.out _ SA1.out.m).mono ?_; rintro e w3 ⟨gb, rfl, s3, z3, m3⟩; have SB := Lib.hid s3; have HAB : Hid (ga ≠ gb) := Lib.hid (by have := SA1.out.a.lt; omega); have SA := Lib.hid (SA1.out.nil m3); clear s3 m3 SA1 z3)
    | (go_at_call 29; refine (HNA.out _ M1.out).mono ?_; rintro e w2 ⟨ga, rfl, s2, _, _⟩; have SA1 := Lib.hid s2; clear s2))
  clear HNA HNB hra' hrb' hu1 hu2 hw1 hw2 hw4 hw5 hw7
  go_loopw [17, 18] (fun x y wr => ∃ j q r qb rb lc tc : Nat, x = .bool (decide (t ≤ j)) ∧ y = .int .i64 ((j + 1 : Nat) : Int) ∧ j ≤ K ∧ Hid (j = t * q + r ∧ r < t) ∧ Hid (j = tb * qb + rb ∧ rb < tb) ∧ Hid (EOk t lc ∧ (1 < t → 2 ≤ lc) ∧ tc ≤ j) ∧ T16 w wr ga gb gc t tb (t - r) (tb - rb) lc tc) (fun _ y _ => K + 1 - (intOf y).toNat)
  case atStart => exact ⟨0, 0, 0, 0, 0, t, 0, by have := HTB.out; simp; omega, rfl, Nat.zero_le _, Lib.hid ⟨by simp, by have := HTB.out; omega⟩, Lib.hid ⟨by simp, by have := HTB.out; omega⟩, Lib.hid ⟨⟨by have := HTB.out; omega, Nat.le_refl _, by have := HTB.out; omega⟩, fun h => h, Nat.le_refl _⟩, S4.out⟩
  case round =>
    obtain ⟨j, q, r, qb, rb, lc, tc, rfl, rfl, hjK, H1, H2, H3, hss⟩ := hrel
    have S := Lib.hid hss
    clear hss S4
    by_cases hgo : j < K
    · have hgI : decide (((j + 1 : Nat) : Int) ≤ (K : Int)) = true := by simp; omega
      have hgN : decide (j + 1 ≤ K) = true := by simp; omega
      obtain ⟨s, q', r', hs1, hs2, hs3, hs4, hs5, hs6, hs7, hs8⟩ := quiet_step H1.out.1 H1.out.2
      obtain ⟨sb, qb', rb', hb1, hb2, hb3, hb4, hb5, hb6, hb7, hb8⟩ := quiet_step H2.out.1 H2.out.2
      have H1' : Hid (j + 1 = t * q' + r' ∧ r' < t) := Lib.hid ⟨hs3, hs4⟩
      have H2' : Hid (j + 1 = tb * qb' + rb' ∧ rb' < tb) := Lib.hid ⟨hb3, hb4⟩
      have HTA : Hid (Calls Try.prog 31 #[.pointer (some ⟨ga, 0, none⟩)] wr fun e V => e = .returned (.bool s) ∧ T16 w V ga gb gc t tb (t - r') (tb - rb) lc tc) := Lib.hid (by have h := S.out.tickA ⟨by have := H1.out; omega, by omega, by have := HTB.out; omega⟩; rw [hs1, hs2] at h; exact h)
      have HTBK : Hid (∀ V, T16 w V ga gb gc t tb (t - r') (tb - rb) lc tc → Calls Try.prog 31 #[.pointer (some ⟨gb, 0, none⟩)] V fun e V' => e = .returned (.bool sb) ∧ T16 w V' ga gb gc t tb (t - r') (tb - rb') lc tc) := Lib.hid (fun V hV => by have h := hV.tickB ⟨by have := H2.out; omega, by omega, by have := HTB.out; omega⟩; rw [hb1, hb2] at h; exact h)
      have HTC : Hid (∀ V, T16 w V ga gb gc t tb (t - r') (tb - rb') lc tc → Calls Try.prog 31 #[.pointer (some ⟨gc, 0, none⟩)] V fun e V' => e = .returned (.bool (decide (lc ≤ 1))) ∧ T16 w V' ga gb gc t tb (t - r') (tb - rb') (eLeft t lc) tc) := Lib.hid (fun V hV => hV.tickC H3.out.1)
      obtain ⟨u, hu⟩ : ∃ u, decide (lc ≤ 1) = u := ⟨_, rfl⟩
      obtain ⟨l1, hl1⟩ : ∃ u, eLeft t lc = u := ⟨_, rfl⟩
      obtain ⟨f0, hf0⟩ : ∃ u, decide (t ≤ j) = u := ⟨_, rfl⟩
      obtain ⟨f1, hf1⟩ : ∃ u, decide (t ≤ j + 1) = u := ⟨_, rfl⟩
      obtain ⟨d1, hd1⟩ : ∃ u, decide (1 < t) = u := ⟨_, rfl⟩
      have hd1I : decide ((1 : Int) < (t : Int)) = d1 := by rw [← hd1, Bool.eq_iff_iff, decide_eq_true_iff, decide_eq_true_iff]; omega
      obtain ⟨e1, he1⟩ : ∃ u, decide (l1 = 1) = u := ⟨_, rfl⟩
      have he1I : ((l1 : Int) == 1) = e1 := by rw [← he1, Bool.eq_iff_iff, decide_eq_true_iff, beq_iff_eq]; omega
      have hr0 : ((j + 1 : Nat) : Int).tmod (t : Int) = (r' : Int) := by rw [tmod_nat16, hs5]
      have ht0 : (t : Int) ≠ 0 := by have := HTB.out; omega
      have ht0n : ¬ t = 0 := by have := HTB.out; omega
      rw [hu, hl1] at HTC
      rw [hf0, hf1] at hs8
      have HF : Hid ((f0 || s) = f1 ∧ (sb = true → f1 = true) ∧ (u = true → d1 = false) ∧ (d1 = false → e1 = true) ∧ f1 = decide (t ≤ j + 1) ∧ (e1 = false → EOk t l1 ∧ (1 < t → 2 ≤ l1)) ∧ t ≤ 32000 ∧ (1 < t ∨ t = 1) ∧ (d1 = false → u = true)) := Lib.hid (by
        have h3 := H3.out
        have h4 := HTB.out
        unfold EOk at h3 ⊢
        unfold eLeft at hl1
        refine ⟨hs8, fun h => ?_, fun h => ?_, fun h => ?_, hf1.symm, fun h => ?_, by omega, by omega, fun h => ?_⟩
        · rw [← hf1]; have := hb7 h; simp; omega
        · subst h; rw [← hd1]; simp at hu ⊢; omega
        · rw [h] at hd1; rw [← he1]; simp at hd1 ⊢; split at hl1 <;> omega
        · rw [h] at he1; simp at he1; split at hl1 <;> omega
        · rw [h] at hd1; rw [← hu]; simp at hd1 ⊢; omega)
      have HX : Hid (tc ≤ j) := Lib.hid H3.out.2.2
      have hwx : IntKind.u64.wrap ((j + 1 : Nat) : Int) = ((j + 1 : Nat) : Int) := by rw [IntKind.wrap_u64]; omega
      rw [hf0]
      have hr1 : ((j : Int) + 1).tmod (t : Int) = (r' : Int) := by rw [← hr0]; rfl
      have hr2 : ((j : Int) + 1) % (t : Int) = (r' : Int) := by rw [← hs5]; rfl
      have hwy : IntKind.u64.wrap ((j : Int) + 1) = ((j + 1 : Nat) : Int) := hwx
      have hB : (((f0 || s) == f1) && (!sb || f1) && (!u || !d1) && (d1 || e1) && (d1 || u)) = true := by
        exact bools16 HF.out.1 HF.out.2.1 HF.out.2.2.1 HF.out.2.2.2.1 HF.out.2.2.2.2.2.2.2.2
      have HFF : Hid ((f0 || s) = decide (t ≤ j + 1)) := Lib.hid (by rw [HF.out.1]; exact HF.out.2.2.2.2.1)
      have HE : Hid (e1 = false → EOk t l1 ∧ (1 < t → 2 ≤ l1)) := Lib.hid HF.out.2.2.2.2.2.1
      have HTT : Hid (EOk t t ∧ (1 < t → 2 ≤ t)) := Lib.hid ⟨⟨by have := HTB.out; omega, Nat.le_refl _, HF.out.2.2.2.2.2.2.1⟩, fun h => h⟩
      clear hu hl1 hf0 hf1 hd1 he1 hs1 hs2 hs3 hs4 hs5 hs7 hs8 hb1 hb2 hb3 hb4 hb5 hb6 hb7 hb8 H1 H2 H3 S HF
      have hgP : (j : Int) + 1 ≤ (K : Int) := by omega
      cases f1 <;> cases f0 <;> cases s <;> cases sb <;> cases u <;> cases d1 <;> cases e1 <;> first | (exact absurd hB (by decide)) | skip
      all_goals clear hB
      all_goals
        go_wp2_with (first
          | (go_at_call 33; refine (S7.out.heardC (x := j + 1) (by have := HX.out; omega)).mono ?_; rintro e w8 ⟨rfl, s8⟩; have S8 := Lib.hid s8; clear s8)
          | (go_at_call 35; refine (S6.out.leftC).mono ?_; rintro e w7 ⟨rfl, s7⟩; have S7 := Lib.hid s7; clear s7)
          | (go_at_call 31; have hx := S5.out; clear hx; refine (HTC.out _ S5.out).mono ?_; rintro e w6 ⟨rfl, s6⟩; have S6 := Lib.hid s6; clear s6 S5)
          | (go_at_call 31; have hx := S4.out; clear hx; refine (HTBK.out _ S4.out).mono ?_; rintro e w5 ⟨rfl, s5⟩; have S5 := Lib.hid s5; clear s5 S4)
          | (go_at_call 31; refine (HTA.out).mono ?_; rintro e w4 ⟨rfl, s4⟩; have S4 := Lib.hid s4; clear s4))
        first
        | exact ⟨⟨j + 1, q', r', qb', rb', t, j + 1, congrArg Value.bool HFF.out, by go_num, by omega, H1', H2', Lib.hid ⟨HTT.out.1, HTT.out.2, Nat.le_refl _⟩, S8.out⟩, by simp [intOf]; omega⟩
        | exact ⟨⟨j + 1, q', r', qb', rb', l1, tc, congrArg Value.bool HFF.out, by go_num, by omega, H1', H2', Lib.hid ⟨(HE.out (by first | rfl | trivial)).1, (HE.out (by first | rfl | trivial)).2, by have := HX.out; omega⟩, S7.out⟩, by simp [intOf]; omega⟩
    · obtain rfl : j = K := by omega
      have hgI : decide (((j + 1 : Nat) : Int) ≤ (j : Int)) = false := by simp; omega
      have hgN : decide (j + 1 ≤ j) = false := by simp
      clear hgo hjK
      go_wp2_with fail
      go_ret
      exact ⟨rfl, S.out.a.m⟩
end Go.Proofs.Ytpabbhhaagfoeaa
