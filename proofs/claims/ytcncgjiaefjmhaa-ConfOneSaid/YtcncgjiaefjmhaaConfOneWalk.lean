/- ConfOne's walk. -/
import Derived.Test.YtcncgjiaefjmhaaLawM10
namespace Go.Proofs.Ytcncgjiaefjmhaa
set_option maxRecDepth 1000000
open Go.RowKit
set_option linter.unusedVariables false
set_option linter.unusedSimpArgs false

set_option maxHeartbeats 8000000 in
theorem confOne_walk (w : World) {A : Option Addr} {c n : Nat} {xs : List UInt8} (hn : xs.length = n) (hs : Sl w A c (bts xs)) {a : Int} (wa : (Lit.int .u16 a).wf = true) :
    Calls Try.prog 5 #[.slice A n c, .int .u16 a] w fun e w' => e = .returned (.bool true) ∧ Mods Nil w w' := by
  obtain ⟨z, rfl, hz⟩ := u16_nat10 wa
  have HS := Lib.hid hs
  have HN := Lib.hid hn
  have hle := hs.le
  rw [bts_length, hn] at hle
  have hwz : IntKind.i64.wrap (z : Int) = (z : Int) := IntWalk.i64_in _ (by omega)
  by_cases hbig : 300 < n
  · have hb : (300 : Int) < (n : Int) := by omega
    clear hs hn
    go_enter Try.func5, Try.ntmps5
    go_wp2_with (go_at_call 10; refine (awake10_any _).mono ?_; rintro e w1 ⟨rfl, m1⟩; have M1 := Lib.hid m1; clear m1)
    go_ret
    exact ⟨rfl, M1.out⟩
  have hb : (n : Int) ≤ 300 := by omega
  have HG := Lib.hid (fun W (h : Sl W A c (bts xs)) => cget_any hn h (by omega))
  by_cases hE : gE xs = 0
  · obtain ⟨hp, hck, hok, hne⟩ := put_get hE
    have hpos : 0 < n := by rw [← hn]; exact List.length_pos_iff.2 hne
    obtain ⟨k, hk⟩ : ∃ k, z % n = k := ⟨_, rfl⟩
    have hkn : k < n := by rw [← hk]; exact Nat.mod_lt _ hpos
    have hrem : ((z : Nat) : Int).tmod (n : Int) = (k : Int) := by rw [Int.tmod_eq_emod_of_nonneg (by omega), ← hk]; rfl
    have hcut := get_cut hE (k := k) (by omega)
    have HGC := Lib.hid (fun W (h : Sl W A c (bts (xs.take k))) => cget_any (xs := xs.take k) (n := k) (by simp; omega) h (by omega))
    rw [hcut] at HGC
    rw [hE] at HG
    have hsl := fun W => slice_to10 (A := A) (n := n) (c := c) (j := k) (by omega) W
    have hn0 : (n : Int) ≠ 0 := by omega
    have hnz : ((n : Int) == 0) = false := by rw [beq_eq_false_iff_ne]; omega
    generalize gC xs = C at HG hp hck hok
    have HP := Lib.hid hp
    have HCK := Lib.hid hck
    have HOK := Lib.hid hok
    have HTK : Hid (bts (xs.take k) = (bts xs).take k) := Lib.hid (by simp [bts])
    have HKN := Lib.hid hkn
    clear hs hn hE hp hck hok hne hk hcut hz hbig hpos
    generalize gC (xs.take k) = C2 at HGC
    go_enter Try.func5, Try.ntmps5
    go_wp2_with (first
      | (go_at_call 10; refine (awake10_any _).mono ?_; rintro e w1 ⟨rfl, m1⟩; have M1 := Lib.hid m1; have S1 := Lib.hid (HS.out.mods m1 (fun _ _ h => h)); clear m1)
      | (go_at_call_of 11 (Value.slice A n c); refine (HG.out _ S1.out).mono ?_; rintro e w2 ⟨A2, n2, k2, rfl, i2, m2⟩; have I2 := Lib.hid i2; have M2 := Lib.hid (M1.out.trans m2); have S2 := Lib.hid (S1.out.mods (m2.alloc (.cells (CV C A2 n2 k2) 27)) (fun _ _ h => h)); clear i2 m2)
      | (go_at_call 16; obtain ⟨L2, hL2, hR2, -⟩ := I2.out; refine (cput_any _ C (hR2.mods ((Mods.refl Nil w2).alloc _)) HOK.out hL2 HCK.out).mono ?_; rintro e w3 ⟨A3, c3, rfl, s3, m3, -⟩; rw [HP.out] at s3; rw [HP.out, HN.out]; have S3 := Lib.hid s3; have SB3 := Lib.hid (S2.out.mods m3 (fun _ _ h => h)); have ST3 := Lib.hid (Sl.take SB3.out k); rw [← HTK.out] at ST3; have M3 := Lib.hid ((M2.out.alloc (.cells (CV C A2 n2 k2) 27)).trans m3); clear s3 m3 hL2 hR2)
      | (go_at_call_of 11 (Value.slice A k c); refine (HGC.out _ ST3.out).mono ?_; rintro e w4 ⟨A4, n4, k4, rfl, i4, m4⟩; have M4 := Lib.hid ((M3.out.trans m4).alloc (.cells (CV C2 A4 n4 k4) 27)); have q1 := conv10 HN.out (S3.out.mods (m4.alloc (.cells (CV C2 A4 n4 k4) 27)) (fun _ _ h => h)); have q2 := conv10 HN.out (SB3.out.mods (m4.alloc (.cells (CV C2 A4 n4 k4) 27)) (fun _ _ h => h)); clear i4 m4))
    go_ret
    exact ⟨rfl, M4.out⟩
  · have hC := gC_bad hE
    rw [hC] at HG
    obtain ⟨E, hEE⟩ : ∃ E, gE xs = E := ⟨_, rfl⟩
    rw [hEE] at HG hE
    have hne : (E != 0) = true := by simp [hE]
    clear hs hn hEE hE hC
    go_enter Try.func5, Try.ntmps5
    go_wp2_with (first
      | (go_at_call 10; refine (awake10_any _).mono ?_; rintro e w1 ⟨rfl, m1⟩; have M1 := Lib.hid m1; have S1 := Lib.hid (HS.out.mods m1 (fun _ _ h => h)); clear m1)
      | (go_at_call 11; refine (HG.out _ S1.out).mono ?_; rintro e w2 ⟨A2, n2, k2, rfl, i2, m2⟩; obtain rfl := i2.zero rfl; have M2 := Lib.hid (M1.out.trans m2); clear i2 m2))
    go_ret
    exact ⟨rfl, M2.out.alloc _⟩
end Go.Proofs.Ytcncgjiaefjmhaa
