/- The reference of layer 1: numbers as texts. -/
import Derived.Test.YtncmmiecfkfcgaaPlain1
import Derived.Test.YtncmmiecfkfcgaaGen
import Derived.Deep.RegionWith
import Derived.Deep.RegionLaw
namespace Go.Proofs.Ytncmmiecfkfcgaa
open Go.RowKit

set_option maxHeartbeats 1600000 in
theorem digits_any (n : Nat) : ∀ (x : Nat) (q : Int), q = (x : Int) → n ≤ 8 → x < 256 ^ n → ∀ w, Calls Try.prog 39 #[.int .u64 q] w fun e w' => e = .returned (.string (strOf (digs x))) ∧ Mods Nil w w' := by
  induction n with
  | zero =>
    intro x q hq _ hx w
    obtain rfl : x = 0 := by simpa using hx
    subst hq
    rw [digs_zero]
    go_enter Try.func39, Try.ntmps39
    go_wp2_with fail
    go_ret
    exact ⟨rfl, Mods.refl _ _⟩
  | succ n ih =>
    intro x q hq hn8 hx w
    by_cases h0 : x = 0
    · subst h0
      subst hq
      rw [digs_zero]
      go_enter Try.func39, Try.ntmps39
      go_wp2_with fail
      go_ret
      exact ⟨rfl, Mods.refl _ _⟩
    · have hz : ((x : Int) == 0) = false := by rw [beq_eq_false_iff_ne]; omega
      have hx8 : x < 18446744073709551616 := by
        have h1 : 256 ^ (n + 1) ≤ 256 ^ 8 := Nat.pow_le_pow_right (by omega) hn8
        have h2 : (256 : Nat) ^ 8 = 18446744073709551616 := rfl
        omega
      have hq : IntKind.u64.wrap ((x : Int) / 256) = ((x / 256 : Nat) : Int) := by rw [IntKind.wrap_u64]; omega
      have hih := ih (x / 256) (IntKind.u64.wrap ((x : Int) / 256)) hq (by omega) (by rw [Nat.pow_succ] at hx; omega)
      have hY : IntKind.u8.wrap ((x : Int).tmod 256) = ((UInt8.ofNat (x % 256)).toNat : Int) := by
        rw [IntKind.wrap_u8', ofNat_toNat _ (Nat.mod_lt _ (by omega)), Int.tmod_eq_emod_of_nonneg (by omega)]; omega
      have HIH := Lib.hid hih
      have hd := digs_pos h0
      have HD := Lib.hid hd
      have hl8 := digs_le8 (x := x / 256) (by omega)
      subst q
      have hadd := fun W => string_add Try.prog (digs (x / 256)) [UInt8.ofNat (x % 256)] (by simp; omega) W
      have k1 := fun W => one_string W _ _ hY (0, 0)
      have k2 := fun (W : World) => one_string_later (w := W) _ _ hY (0, 0) (Mods.refl Nil (W.alloc _)).drew
      have HY := Lib.hid hY
      clear ih hih hd hx h0 hx8 hq hl8 hY
      go_enter Try.func39, Try.ntmps39
      go_wp2_with fail
      go_region_with (go_at_call 39; refine (HIH.out _).mono ?_; rintro e w2 ⟨rfl, m2⟩; have M2 := Lib.hid m2; first | (have q2 := one_string_later _ _ HY.out (0, 0) m2.of_drew) | skip; clear m2)
      all_goals
        go_wp2
        go_ret
        refine ⟨?_, ?_⟩
        · rw [HD.out]; rfl
        · first | exact ((Mods.refl Nil w).alloc _).drew.trans M2.out | exact ((Mods.refl Nil w).drew.trans M2.out).alloc _ | exact ((((Mods.refl Nil w).alloc _).drew).trans M2.out) | exact (Mods.refl Nil w).drew.trans M2.out

theorem ruint_any (x : Nat) (hx : x < 18446744073709551616) (w : World) : Calls Try.prog 27 #[.int .u64 x] w fun e w' => e = .returned (.string (strOf (putU x))) ∧ Mods Nil w w' := by
  have h8 := digs_le8 hx
  obtain ⟨L, hL⟩ : ∃ L, (digs x).length = L := ⟨_, rfl⟩
  have hd := digits_any 8 x x rfl (Nat.le_refl _) (by have : (256 : Nat) ^ 8 = 18446744073709551616 := rfl; omega)
  have HD := Lib.hid hd
  have hL8 : L ≤ 8 := by omega
  have hLI : (0 : Int) ≤ (L : Int) := by omega
  have hsz : (strOf (digs x)).size = L := by simp [hL]
  have k1 := fun W => one_string W (L : Int) (UInt8.ofNat L) (ofNat_toNat L (by omega)).symm (0, 0)
  have hadd := fun W => string_add Try.prog [UInt8.ofNat L] (digs x) (by simp; omega) W
  have HP : Hid (putU x = [UInt8.ofNat L] ++ digs x) := by unfold putU; rw [hL]; rfl
  clear hd h8 hx hL
  go_enter Try.func27, Try.ntmps27
  go_wp2_with (go_at_call 39; refine (HD.out _).mono ?_; rintro e w2 ⟨rfl, m2⟩; have M2 := Lib.hid m2; clear m2)
  go_ret
  exact ⟨by rw [HP.out]; rfl, M2.out.alloc _⟩

end Go.Proofs.Ytncmmiecfkfcgaa
