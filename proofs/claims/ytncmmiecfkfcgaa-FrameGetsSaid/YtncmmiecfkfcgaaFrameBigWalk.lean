/- FrameBig's walk. -/
import Derived.Test.YtncmmiecfkfcgaaAwake03
import Derived.Test.YtncmmiecfkfcgaaOpen
namespace Go.Proofs.Ytncmmiecfkfcgaa
open Go.RowKit
set_option linter.unusedVariables false

theorem u8_nat {a : Int} (w : (Lit.int .u8 a).wf = true) : ∃ k : UInt8, a = (k.toNat : Int) := by
  have h := u8_of_wf w
  exact ⟨UInt8.ofNat a.toNat, by simp; omega⟩
theorem made_bytes (n : Nat) : (madeCells (Value.int .u8 0).cells (n * 1)).toList = bts (List.replicate n 0) := by
  rw [Nat.mul_one]
  unfold madeCells bts
  simp [Value.cells]
  apply List.ext_getElem
  · simp
  · intro i h1 h2
    simp [Nat.mod_one]
theorem big_bytes (lo : UInt8) (k : UInt8) : getE [3, 1, 0, lo, k] = 13 := by
  have h : numErr [3, 1, 0, lo, k] = 0 := numErr_ok (by decide) (by simp) (by decide)
  have hs : szOf [3, 1, 0, lo, k] = 65536 + lo.toNat := by
    unfold szOf valOf
    simp
  have hm : measE [3, 1, 0, lo, k] = 13 := by unfold measE; rw [if_neg (by simp [h]), if_pos (by omega)]
  rw [getE_meas (by rw [hm]; decide), hm]
theorem putU_two {n : Nat} (h1 : 256 ≤ n) (h2 : n < 65536) : (putU n).length = 3 := by
  have := digs_len 2 n (by omega) (fun _ => by omega)
  simp [putU, this]

set_option maxRecDepth 100000 in
set_option maxHeartbeats 3200000 in
theorem frameBig_walk (w : World) {a0 : Int} (w0 : (Lit.int .u16 a0).wf = true) {a1 : Int} (w1 : (Lit.int .u8 a1).wf = true) :
    Calls Try.prog 7 #[.int .u16 a0, .int .u8 a1] w fun e w' => e = .returned (.bool true) ∧ Mods Nil w w' := by
  obtain ⟨k, rfl⟩ := u8_nat w1
  have ha := u16_of_wf w0
  obtain ⟨N, rfl⟩ := Int.eq_ofNat_of_zero_le ha.1
  clear ha w0 w1
  obtain ⟨i0, hi, hz0, hz1, hz2⟩ := info_parts infoByte
  obtain ⟨m, hm⟩ : ∃ m, N % 12 = m := ⟨_, rfl⟩
  have hm12 : m < 12 := by omega
  have hmI : (N : Int) % 12 = (m : Int) := by omega
  obtain ⟨K, hK⟩ : ∃ K, 65530 + m = K := ⟨_, rfl⟩
  have hKI : 65530 + (m : Int) = (K : Int) := by omega
  by_cases hbig : 65535 < K
  · have hbI : (65535 : Int) < (K : Int) := by omega
    obtain ⟨lo, hlo⟩ : ∃ lo : UInt8, (K : Int) % 256 = (lo.toNat : Int) := ⟨UInt8.ofNat (K % 256), by simp⟩
    have hhi : (K : Int) / 256 % 256 = 0 := by omega
    have HE := Lib.hid (big_bytes lo k)
    clear hm
    go_enter Try.func7, Try.ntmps7
    go_wp2_with (first
      | (go_at_call 9; refine (awake_any _).mono ?_; rintro e w1 ⟨rfl, m1⟩; have M1 := Lib.hid m1; clear m1)
      | (at_make; refine wpList_make_full _ rfl _ _ _ rfl w1.heap.size 5 i0 (.int .u8 0) 1 Try.underlying22 hi hz0 hz1 _ _ _ _ K rfl rfl (by omega) (by omega) (by rw [hz2]; omega) (by unfold maxLen; omega) (Nat.le_refl _) ?_; intro w2 hown hgrow; have M2 := Lib.hid (M1.out.trans (Mods.ofGrown hgrow)); clear hown hgrow)
      | (go_at_call 14; refine (fput_big hbig (by omega)).mono ?_; rintro e w3 ⟨rfl, m3⟩; have M3 := Lib.hid (M2.out.trans m3); clear m3)
      | (go_at_call 10; refine (get_any (n := 5) (xs := [3, 1, 0, lo, k]) rfl (build_at (n := 5) rfl rfl rfl (by unfold maxLen; omega))).mono ?_; rintro e w4 ⟨A4, c4, he, s4, b4, m4⟩; rw [HE.out] at he; subst he; have M4 := Lib.hid ((M3.out.alloc _).trans m4); clear s4 b4 m4))
    go_ret
    exact ⟨rfl, M4.out.alloc _⟩
  · have hbI : (K : Int) ≤ 65535 := by omega
    obtain ⟨body, hbody⟩ : ∃ body : List UInt8, List.replicate K 0 = body := ⟨_, rfl⟩
    have hbl : body.length = K := by rw [← hbody]; simp
    obtain ⟨M, hM⟩ : ∃ M, K + 8 = M := ⟨_, rfl⟩
    have hMI : (K : Int) + 8 = (M : Int) := by omega
    have hlen : (frameOf k body).length = M := by rw [frameOf_length, hbl, putU_two (by omega) (by omega)]; omega
    have HG := Lib.hid (got_self (k := k) (body := body) (by omega))
    have HB := Lib.hid hbody
    have HBL := Lib.hid hbl
    have HL := Lib.hid hlen
    clear hm hbody hbl hlen
    go_enter Try.func7, Try.ntmps7
    go_wp2_with (first
      | (go_at_call 9; refine (awake_any _).mono ?_; rintro e w1 ⟨rfl, m1⟩; have M1 := Lib.hid m1; clear m1)
      | (at_make; refine wpList_make_full _ rfl _ _ _ rfl w1.heap.size 5 i0 (.int .u8 0) 1 Try.underlying22 hi hz0 hz1 _ _ _ _ K rfl rfl (by omega) (by omega) (by rw [hz2]; omega) (by unfold maxLen; omega) (Nat.le_refl _) ?_; intro w2 hown hgrow; have M2 := Lib.hid (M1.out.trans (Mods.ofGrown hgrow)); rw [made_bytes, HB.out] at hown; obtain ⟨A2, c2, hv2, -, s2, -⟩ := own_slice hown; injection hv2 with e1 e2 e3; subst e1; subst e3; have S2 := Lib.hid s2; clear hown hgrow s2 e2)
      | (go_at_call 14; refine (fput_to HBL.out (by omega) HL.out S2.out).mono ?_; rintro e w3 ⟨A3, c3, rfl, s3, -, -, -, m3⟩; have M3 := Lib.hid (M2.out.trans m3); have S3 := Lib.hid s3; clear m3 s3)
      | (go_at_call 10; refine (get_any HL.out S3.out).mono ?_; rintro e w4 ⟨A4, c4, he, s4, b4, m4⟩; rw [HG.out.1, HG.out.2.1, HG.out.2.2.1, HG.out.2.2.2, HL.out, HBL.out] at he; subst he; obtain ⟨d0, d1, d2, d3⟩ := (Blk.new w4 25 #[.int .u8 (k.toNat : Int), .slice A4 K c4]).two; have M4 := Lib.hid (M3.out.trans m4); clear s4 b4 m4))
    go_ret
    exact ⟨rfl, M4.out.alloc _⟩
end Go.Proofs.Ytncmmiecfkfcgaa
