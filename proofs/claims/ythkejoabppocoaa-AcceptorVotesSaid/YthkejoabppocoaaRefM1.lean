/- Texts laid as one: Ref1, Ref2, Ref3. -/
import Derived.Test.YthkejoabppocoaaPlainM
import Derived.Test.YthkejoabppocoaaBaseM
import Derived.Deep.RegionWith
import Derived.Deep.RegionLaw

section
/- The reference of layer 1: numbers as texts. -/
namespace Go.Proofs.Ythkejoabppocoaa
set_option maxRecDepth 100000
open Go.RowKit

set_option maxHeartbeats 1600000 in
theorem digits_any (n : Nat) : ∀ (x : Nat) (q : Int), q = (x : Int) → n ≤ 8 → x < 256 ^ n → ∀ w, Calls Try.prog 54 #[.int .u64 q] w fun e w' => e = .returned (.string (strOf (digs x))) ∧ Mods Nil w w' := by
  induction n with
  | zero =>
    intro x q hq _ hx w
    obtain rfl : x = 0 := by simpa using hx
    subst hq
    rw [digs_zero]
    go_enter Try.func54, Try.ntmps54
    go_wp2_with fail
    go_ret
    exact ⟨rfl, Mods.refl _ _⟩
  | succ n ih =>
    intro x q hq hn8 hx w
    by_cases h0 : x = 0
    · subst h0
      subst hq
      rw [digs_zero]
      go_enter Try.func54, Try.ntmps54
      go_wp2_with fail
      go_ret
      exact ⟨rfl, Mods.refl _ _⟩
    · have hz : ((x : Int) == 0) = false := by rw [beq_eq_false_iff_ne]; omega
      have hx8 : x < 18446744073709551616 := by
        have h1 : 256 ^ (n + 1) ≤ 256 ^ 8 := Nat.pow_le_pow_right (by omega) hn8
        have h2 : (256 : Nat) ^ 8 = 18446744073709551616 := rfl
        omega
      have hq : IntKind.u64.wrap ((x : Int) / 256) = ((x / 256 : Nat) : Int) := by rw [IntKind.wrap_u64]; omega
      have hih := ih (x / 256) (IntKind.u64.wrap ((x : Int) / 256)) hq (by omega) (by rw [Nat.pow_succ] at hx; omega)
      have hY : IntKind.u8.wrap ((x : Int).tmod 256) = ((UInt8.ofNat (x % 256)).toNat : Int) := by
        rw [IntKind.wrap_u8', ofNat_toNat _ (Nat.mod_lt _ (by omega)), Int.tmod_eq_emod_of_nonneg (by omega)]; omega
      have HIH := Lib.hid hih
      have hd := digs_pos h0
      have HD := Lib.hid hd
      have hl8 := digs_le8 (x := x / 256) (by omega)
      subst q
      have hadd := fun W => string_add Try.prog (digs (x / 256)) [UInt8.ofNat (x % 256)] (by simp; omega) W
      have k1 := fun W => one_string W _ _ hY (0, 0)
      have k2 := fun (W : World) => one_string_later (w := W) _ _ hY (0, 0) (Mods.refl Nil (W.alloc _)).drew
      have HY := Lib.hid hY
      clear ih hih hd hx h0 hx8 hq hl8 hY
      go_enter Try.func54, Try.ntmps54
      go_wp2_with fail
      go_region_with (go_at_call 54; refine (HIH.out _).mono ?_; rintro e w2 ⟨rfl, m2⟩; have M2 := Lib.hid m2; first | (have q2 := one_string_later _ _ HY.out (0, 0) m2.of_drew) | skip; clear m2)
      all_goals
        go_wp2
        go_ret
        refine ⟨?_, ?_⟩
        · rw [HD.out]; rfl
        · first | exact ((Mods.refl Nil w).alloc _).drew.trans M2.out | exact ((Mods.refl Nil w).drew.trans M2.out).alloc _ | exact ((((Mods.refl Nil w).alloc _).drew).trans M2.out) | exact (Mods.refl Nil w).drew.trans M2.out

theorem ruint_any (x : Nat) (hx : x < 18446744073709551616) (w : World) : Calls Try.prog 41 #[.int .u64 x] w fun e w' => e = .returned (.string (strOf (putU x))) ∧ Mods Nil w w' := by
  have h8 := digs_le8 hx
  obtain ⟨L, hL⟩ : ∃ L, (digs x).length = L := ⟨_, rfl⟩
  have hd := digits_any 8 x x rfl (Nat.le_refl _) (by have : (256 : Nat) ^ 8 = 18446744073709551616 := rfl; omega)
  have HD := Lib.hid hd
  have hL8 : L ≤ 8 := by omega
  have hLI : (0 : Int) ≤ (L : Int) := by omega
  have hsz : (strOf (digs x)).size = L := by simp [hL]
  have k1 := fun W => one_string W (L : Int) (UInt8.ofNat L) (ofNat_toNat L (by omega)).symm (0, 0)
  have hadd := fun W => string_add Try.prog [UInt8.ofNat L] (digs x) (by simp; omega) W
  have HP : Hid (putU x = [UInt8.ofNat L] ++ digs x) := by unfold putU; rw [hL]; rfl
  clear hd h8 hx hL
  go_enter Try.func41, Try.ntmps41
  go_wp2_with (go_at_call 54; refine (HD.out _).mono ?_; rintro e w2 ⟨rfl, m2⟩; have M2 := Lib.hid m2; clear m2)
  go_ret
  exact ⟨by rw [HP.out]; rfl, M2.out.alloc _⟩

theorem rbytes_any (xs : List UInt8) (hx : xs.length ≤ 140737488355328) (w : World) : Calls Try.prog 42 #[.string (strOf xs)] w fun e w' => e = .returned (.string (strOf (putB xs))) ∧ Mods Nil w w' := by
  have hd := ruint_any xs.length (by omega)
  have h9 := putU_length xs.length (by omega)
  have HD := Lib.hid hd
  have hsz : (strOf xs).size = xs.length := by simp
  have hlI : (0 : Int) ≤ (xs.length : Int) := by omega
  have hlw : IntKind.u64.wrap (xs.length : Int) = (xs.length : Int) := by rw [IntKind.wrap_u64]; omega
  have hadd := fun W => string_add Try.prog (putU xs.length) xs (by omega) W
  clear hd h9
  go_enter Try.func42, Try.ntmps42
  go_wp2_with (go_at_call 41; refine (HD.out _).mono ?_; rintro e w2 ⟨rfl, m2⟩; have M2 := Lib.hid m2; clear m2)
  go_ret
  exact ⟨rfl, M2.out⟩
end Go.Proofs.Ythkejoabppocoaa
end

section
/- The reference of layer 1: reading. -/
namespace Go.Proofs.Ythkejoabppocoaa
set_option maxRecDepth 100000
open Go.RowKit
set_option linter.unusedVariables false

def refOf (B : List UInt8) (E : Int) : Value := .agg #[.string (strOf B), .int .i64 E]

def RTold (w : World) (B : List UInt8) (r : Int × List UInt8 × List UInt8) (e : Ending) (w' : World) : Prop :=
  ∃ B', e = .returned (.tuple #[refOf B' r.1, .string (strOf r.2.2)]) ∧ (r.1 = 0 → B' = r.2.1) ∧ B'.length ≤ B.length ∧ Mods Nil w w'

set_option maxHeartbeats 800000 in
theorem rraw_any (w : World) (B : List UInt8) (E n : Int) (hB : B.length ≤ 140737488355328) :
    Calls Try.prog 51 #[refOf B E, .int .i64 n] w (RTold w B (readRaw E B n)) := by
  have hsz : (strOf B).size = B.length := by simp
  unfold refOf
  by_cases he : E = 0
  · subst he
    by_cases hn : n < 0
    · have e : readRaw 0 B n = (1, [], []) := by unfold readRaw; rw [if_neg (by simp), if_pos hn]
      rw [e]
      go_enter Try.func51, Try.ntmps51
      go_wp2
      exact bodyPost_ret (v := .tuple #[.agg #[.string (strOf B), .int .i64 1], .string ⟨#[]⟩]) (by simp [results, Try.results51, go_sem]) rfl ⟨B, rfl, fun h => absurd h (by decide), Nat.le_refl _, ((Mods.refl _ _).alloc _).alloc _⟩
    · by_cases hl : (B.length : Int) < n
      · have e : readRaw 0 B n = (10, [], []) := by unfold readRaw; rw [if_neg (by simp), if_neg hn, if_pos hl]
        rw [e]
        go_enter Try.func51, Try.ntmps51
        go_wp2
        exact bodyPost_ret (v := .tuple #[.agg #[.string (strOf B), .int .i64 10], .string ⟨#[]⟩]) (by simp [results, Try.results51, go_sem]) rfl ⟨B, rfl, fun h => absurd h (by decide), Nat.le_refl _, ((Mods.refl _ _).alloc _).alloc _⟩
      · obtain ⟨m, rfl⟩ : ∃ m : Nat, n = m := ⟨n.toNat, by omega⟩
        have e : readRaw 0 B m = (0, B.drop m, B.take m) := by unfold readRaw; rw [if_neg (by simp), if_neg hn, if_neg hl]; rfl
        rw [e]
        have hmB : (m : Int) ≤ (B.length : Int) := by omega
        have hmB2 : m ≤ B.length := by omega
        have x1 : (strOf B).extract 0 m = strOf (B.take m) := by rw [strOf_extract]; simp
        have x2 : (strOf B).extract m B.length = strOf (B.drop m) := by rw [strOf_extract, List.take_of_length_le (by simp)]
        go_enter Try.func51, Try.ntmps51
        go_wp2
        exact bodyPost_ret (v := .tuple #[.agg #[.string (strOf (B.drop m)), .int .i64 0], .string (strOf (B.take m))]) (by simp [results, Try.results51, go_sem]) rfl ⟨B.drop m, rfl, fun _ => rfl, by simp, ((Mods.refl _ _).alloc _).alloc _⟩
  · have hb2 : (E != 0) = true := by simp [he]
    have hb3 : (E == 0) = false := by simp [he]
    have e : readRaw E B n = (E, B, []) := by unfold readRaw; rw [if_pos he]
    rw [e]
    go_enter Try.func51, Try.ntmps51
    go_wp2
    exact bodyPost_ret (v := .tuple #[.agg #[.string (strOf B), .int .i64 E], .string ⟨#[]⟩]) (by simp [results, Try.results51, go_sem]) rfl ⟨B, rfl, fun h => absurd h he, Nat.le_refl _, ((Mods.refl _ _).alloc _).alloc _⟩

def NTold (w : World) (B : List UInt8) (r : Int × List UInt8 × Nat) (e : Ending) (w' : World) : Prop :=
  ∃ B', e = .returned (.tuple #[refOf B' r.1, .int .u64 (r.2.2 : Nat)]) ∧ (r.1 = 0 → B' = r.2.1) ∧ B'.length ≤ B.length ∧ Mods Nil w w'

theorem readRaw_ok {B : List UInt8} {n : Nat} (h : n ≤ B.length) : readRaw 0 B n = (0, B.drop n, B.take n) := by
  unfold readRaw; rw [if_neg (by simp), if_neg (by omega), if_neg (by omega)]; rfl
theorem readRaw_short {B : List UInt8} {n : Nat} (h : B.length < n) : readRaw 0 B n = (10, [], []) := by
  unfold readRaw; rw [if_neg (by simp), if_neg (by omega), if_pos (by omega)]

theorem readUint_err' {err : Int} (h : err ≠ 0) {xs : List UInt8} : readUint err xs = (err, xs, 0) := by unfold readUint; rw [if_pos h]
theorem readRaw_err' {err : Int} (h : err ≠ 0) (xs : List UInt8) (n : Int) : readRaw err xs n = (err, xs, []) := by unfold readRaw; rw [if_pos h]
theorem mul_step (v b : Nat) (hv : v < 72057594037927936) (hb : b < 256) : IntKind.u64.wrap (IntKind.u64.wrap ((v : Int) * 256) + IntKind.u64.wrap (b : Int)) = ((v * 256 + b : Nat) : Int) := by
  rw [IntKind.wrap_u64, IntKind.wrap_u64, IntKind.wrap_u64]; omega

set_option maxHeartbeats 1600000 in
theorem rread_any (w : World) (B : List UInt8) (E : Int) (hB : B.length ≤ 140737488355328) :
    Calls Try.prog 34 #[refOf B E] w (NTold w B (readUint E B)) := by
  have hR := fun W => rraw_any W B E 1 hB
  have HR := Lib.hid hR
  clear hR
  by_cases he : E = 0
  · subst he
    rcases B with _ | ⟨c, r⟩
    · have e : readUint 0 [] = (10, [], 0) := rfl
      rw [e]
      have e1 : readRaw 0 [] 1 = (10, [], []) := rfl
      have E1 := Lib.hid e1
      clear e e1
      unfold refOf
      go_enter Try.func34, Try.ntmps34
      go_wp2_with fail
      refine (HR.out _).mono ?_
      rintro e w2 ⟨B2, he, _, hl2, m2⟩
      rw [E1.out] at he
      unfold refOf at he
      subst he
      have M2 := Lib.hid m2
      obtain ⟨bA, bB⟩ := two_boxes m2
      obtain ⟨a0, a1, a2, a3⟩ := bA.two
      obtain ⟨b0, b1, b2, b3⟩ := bB.two
      clear m2 bA bB
      go_wp2_with fail
      exact bodyPost_ret (v := .tuple #[.agg #[.string (strOf B2), .int .i64 10], .int .u64 0]) (by simp [results, Try.results34, go_sem, b0, b1]) rfl ⟨B2, rfl, fun h => absurd h (by decide), hl2, ((((((Mods.refl Nil w).alloc _).alloc _).trans M2.out).setNew (by simp) _).setNew (by simp) _ |>.setNew (by simp) _).setNew (by simp) _⟩
    · have e1 : readRaw 0 (c :: r) 1 = (0, r, [c]) := by rw [show (1 : Int) = ((1 : Nat) : Int) from rfl, readRaw_ok (by simp)]; rfl
      have E1 := Lib.hid e1
      clear e1
      have hcw : IntKind.i64.wrap (c.toNat : Int) = (c.toNat : Int) := IntWalk.i64_in _ (by have := c.toNat_lt; omega)
      have HCW := Lib.hid hcw
      have hR2 := fun W => rraw_any W r 0 (IntKind.i64.wrap (c.toNat : Int)) (by simp at hB; omega)
      clear hcw
      have HR2 := Lib.hid hR2
      clear hR2
      have hix : ∀ W : World, (Instr.index 9 (.string (strOf [c])) (.int .i64 0)).run Try.prog W = .ok (.int .u8 (c.toNat : Int)) W := fun W => index_strOf W [c] 0 (by simp)
      unfold refOf
      by_cases h8 : 8 < c.toNat
      · have e : readUint 0 (c :: r) = (11, [], 0) := by unfold readUint; rw [if_neg (by simp), if_pos (by rw [numErr_big h8]; simp), numErr_big h8]
        rw [e]
        have h8' : (8 : Int) < (c.toNat : Int) := by omega
        go_enter Try.func34, Try.ntmps34
        go_wp2_with fail
        refine (HR.out _).mono ?_
        rintro e w2 ⟨B2, he, hb2, hl2, m2⟩
        rw [E1.out] at he hb2
        obtain rfl : B2 = r := hb2 rfl
        unfold refOf at he
        subst he
        have M2 := Lib.hid m2
        obtain ⟨bA, bB⟩ := two_boxes m2
        obtain ⟨a0, a1, a2, a3⟩ := bA.two
        obtain ⟨b0, b1, b2, b3⟩ := bB.two
        obtain ⟨bA2, bB2⟩ := set_both bA bB (by omega) (.string (strOf B2)) (.int .i64 0)
        obtain ⟨bA3, bB3⟩ := set_second bA2 bB2 (by omega) (.int .i64 11)
        obtain ⟨c0, c1, c2, c3⟩ := bA2.two
        obtain ⟨d0, d1, d2, d3⟩ := bA3.two
        obtain ⟨f0, f1, f2, f3⟩ := bB3.two
        clear m2 bA bB bA2 bB2 bA3 bB3
        go_wp2_with fail
        exact bodyPost_ret (v := .tuple #[.agg #[.string (strOf B2), .int .i64 11], .int .u64 0]) (by simp [results, Try.results34, go_sem, f0, f1]) rfl ⟨B2, rfl, fun h => absurd h (by decide), by simp, ((((((Mods.refl Nil w).alloc _).alloc _).trans M2.out).setNew (by simp) _).setNew (by simp) _ |>.setNew (by simp) _ |>.setNew (by simp) _).setNew (by simp) _⟩
      · have h8' : ¬ (8 : Int) < (c.toNat : Int) := by omega
        by_cases hs : r.length < c.toNat
        · have e : readUint 0 (c :: r) = (10, [], 0) := by unfold readUint; rw [if_neg (by simp), if_pos (by rw [numErr_short h8 hs]; simp), numErr_short h8 hs]
          rw [e]
          have E2 : Hid (readRaw 0 r (IntKind.i64.wrap (c.toNat : Int)) = (10, [], [])) := by rw [HCW.out]; exact readRaw_short hs
          go_enter Try.func34, Try.ntmps34
          go_wp2_with fail
          refine (HR.out _).mono ?_
          rintro e w2 ⟨B2, he, hb2, hl2, m2⟩
          rw [E1.out] at he hb2
          obtain rfl : B2 = r := hb2 rfl
          unfold refOf at he
          subst he
          have M2 := Lib.hid m2
          obtain ⟨bA, bB⟩ := two_boxes m2
          obtain ⟨a0, a1, a2, a3⟩ := bA.two
          obtain ⟨b0, b1, b2, b3⟩ := bB.two
          obtain ⟨bA2, bB2⟩ := set_both bA bB (by omega) (.string (strOf B2)) (.int .i64 0)
          obtain ⟨c0, c1, c2, c3⟩ := bA2.two
          have BA2 := Lib.hid bA2
          have BB2 := Lib.hid bB2
          clear m2 bA bB bA2 bB2
          have HM2 : Hid (Mods Nil w ((w2.setCell ⟨w.heap.size, 0, none⟩ (.string (strOf B2))).setCell ⟨w.heap.size, 1, none⟩ (.int .i64 0))) := (((((Mods.refl Nil w).alloc _).alloc _).trans M2.out).setNew (Nat.le_refl _) _).setNew (Nat.le_refl _) _
          go_wp2_with fail
          go_region_with (go_at_call 51; refine (HR2.out _).mono ?_; rintro e w4 ⟨B4, he, hb4, hl4, m4⟩; rw [E2.out] at he; unfold refOf at he; subst he; have bA4 := BA2.out.mods m4.of_drew (fun h => h); have bB4 := BB2.out.mods m4.of_drew (fun h => h); have HM4 := Lib.hid (HM2.out.trans m4.of_drew); obtain ⟨g0, g1, g2, g3⟩ := bA4.two; have s5 := set_both bA4 bB4 (by omega) (.string (strOf B4)) (.int .i64 10); obtain ⟨k0, k1, k2, k3⟩ := s5.1.two; obtain ⟨l0, l1, l2, l3⟩ := s5.2.two; clear m4 bA4 bB4 s5 hb4)
          all_goals
            go_wp2
            exact bodyPost_ret (v := .tuple #[.agg #[.string (strOf B4), .int .i64 10], .int .u64 0]) (by simp [results, Try.results34, go_sem, l0, l1]) rfl ⟨B4, rfl, fun h => absurd h (by decide), by simp; omega, (((HM4.out.setNew (Nat.le_refl _) _).setNew (Nat.le_refl _) _).setNew (Nat.le_succ _) _).setNew (Nat.le_succ _) _⟩
        · obtain ⟨S, hS⟩ : ∃ S, S = r.take c.toNat := ⟨_, rfl⟩
          have hSl : S.length = c.toNat := by rw [hS]; simp; omega
          have E2 : Hid (readRaw 0 r (IntKind.i64.wrap (c.toNat : Int)) = (0, r.drop c.toNat, S)) := by rw [HCW.out, hS]; exact readRaw_ok (by omega)
          have hvl : ∀ j, j ≤ S.length → valOf (S.take j) < 256 ^ j := fun j hj => by
            have := valOf_lt j (S.take j) (by simp; omega)
            exact this
          have HVL := Lib.hid hvl
          have hS8 : S.length ≤ 8 := by omega
          have hST : (strOf S).size = S.length := by simp
          have HSE := Lib.hid hS
          clear hS hvl hSl
          go_enter Try.func34, Try.ntmps34
          go_wp2_with fail
          refine (HR.out _).mono ?_
          rintro e w2 ⟨B2, he, hb2, hl2, m2⟩
          rw [E1.out] at he hb2
          obtain rfl : B2 = r := hb2 rfl
          unfold refOf at he
          subst he
          have M2 := Lib.hid m2
          obtain ⟨bA, bB⟩ := two_boxes m2
          obtain ⟨a0, a1, a2, a3⟩ := bA.two
          obtain ⟨b0, b1, b2, b3⟩ := bB.two
          obtain ⟨bA2, bB2⟩ := set_both bA bB (by omega) (.string (strOf B2)) (.int .i64 0)
          obtain ⟨c0, c1, c2, c3⟩ := bA2.two
          have BA2 := Lib.hid bA2
          have BB2 := Lib.hid bB2
          clear m2 bA bB bA2 bB2
          have HM2 : Hid (Mods Nil w ((w2.setCell ⟨w.heap.size, 0, none⟩ (.string (strOf B2))).setCell ⟨w.heap.size, 1, none⟩ (.int .i64 0))) := (((((Mods.refl Nil w).alloc _).alloc _).trans M2.out).setNew (Nat.le_refl _) _).setNew (Nat.le_refl _) _
          obtain ⟨R, hRd⟩ : ∃ R, R = B2.drop c.toNat := ⟨_, rfl⟩
          have hRl : R.length ≤ B2.length := by rw [hRd]; simp
          have HRD := Lib.hid hRd
          clear hRd
          go_wp2_with fail
          go_region_with (go_at_call 51; refine (HR2.out _).mono ?_; rintro e w4 ⟨B4, he, hb4, hl4, m4⟩; rw [E2.out] at he hb4; have hb4' := hb4 rfl; simp only at hb4'; rw [← HRD.out] at hb4'; unfold refOf at he; subst he; subst hb4'; have bA4 := BA2.out.mods m4.of_drew (fun h => h); have bB4 := BB2.out.mods m4.of_drew (fun h => h); have HM4 := Lib.hid (HM2.out.trans m4.of_drew); obtain ⟨g0, g1, g2, g3⟩ := bA4.two; have s5 := set_both bA4 bB4 (by omega) (.string (strOf B4)) (.int .i64 0); obtain ⟨k0, k1, k2, k3⟩ := s5.1.two; obtain ⟨l0, l1, l2, l3⟩ := s5.2.two; have S5 := Lib.hid s5; clear m4 bA4 bB4 s5 hb4)
          all_goals
            go_wp2
            go_loop [6, 7] (fun x i => ∃ j : Nat, j ≤ S.length ∧ i = .int .i64 j ∧ x = .int .u64 (valOf (S.take j))) (fun _ i => S.length - (intOf i).toNat)
            case atStart => exact ⟨0, Nat.zero_le _, rfl, rfl⟩
            case round =>
              obtain ⟨j, hj, rfl, rfl⟩ := hrel
              by_cases hlt : j < S.length
              · have hixj : ∀ W : World, (Instr.index 9 (.string (strOf S)) (.int .i64 (j : Int))).run Try.prog W = .ok (.int .u8 (S[j].toNat : Int)) W := fun W => index_strOf W S j hlt
                go_wp2
                have hv : valOf (S.take j) < 72057594037927936 := by
                  have h1 := HVL.out j (by omega)
                  have h2 : 256 ^ j ≤ 256 ^ 7 := Nat.pow_le_pow_right (by omega) (by omega)
                  have h3 : (256 : Nat) ^ 7 = 72057594037927936 := rfl
                  omega
                refine ⟨⟨j + 1, by omega, by go_num, ?_⟩, by simp [intOf]; omega⟩
                rw [mul_step _ _ hv (S[j].toNat_lt), take_snoc' S j hlt, valOf_snoc]
              · obtain rfl : j = S.length := by omega
                rw [List.take_length]
                have hdr := HRD.out
                rcases S with _ | ⟨d, T⟩
                · have hc0 : c.toNat = 0 := by
                    have h1 : ([] : List UInt8).length = (B2.take c.toNat).length := by rw [← HSE.out]
                    rw [List.length_take] at h1
                    simp only [List.length_nil] at h1
                    omega
                  have HU : Hid (readUint 0 (c :: B2) = (0, B4, valOf [])) := by
                    show _ = _
                    unfold readUint
                    rw [if_neg (by simp), if_neg (by rw [numErr_zero hc0]; simp), List.headD_cons, Nat.add_comm, List.drop_succ_cons, List.drop_succ_cons, List.drop_zero, ← HSE.out, ← hdr]
                  have ks := strOf_toList []
                  clear hdr hc0
                  go_wp2
                  exact bodyPost_ret (v := .tuple #[.agg #[.string (strOf B4), .int .i64 0], .int .u64 (valOf [] : Nat)]) (by simp [results, Try.results34, go_sem, l0, l1]) rfl ⟨B4, by rw [HU.out]; rfl, (fun _ => by rw [HU.out]), by simp; omega, (((HM4.out.setNew (Nat.le_refl _) _).setNew (Nat.le_refl _) _).setNew (Nat.le_succ _) _).setNew (Nat.le_succ _) _⟩
                · have hcp : 0 < c.toNat := by
                    have h1 : (d :: T).length = (B2.take c.toNat).length := by rw [← HSE.out]
                    rw [List.length_take, List.length_cons] at h1
                    omega
                  obtain ⟨B5, hB5⟩ : ∃ B5, B2 = d :: B5 := by
                    have h1 := HSE.out
                    rcases B2 with _ | ⟨d', B5⟩
                    · simp at h1
                    · obtain ⟨m, hm⟩ : ∃ m, c.toNat = m + 1 := ⟨c.toNat - 1, by omega⟩
                      rw [hm, List.take_succ_cons] at h1
                      injection h1 with h1 _
                      exact ⟨B5, by rw [h1]⟩
                  have ks := strOf_toList (d :: T)
                  have hixd : ∀ W : World, (Instr.index 9 (.string (strOf (d :: T))) (.int .i64 0)).run Try.prog W = .ok (.int .u8 (d.toNat : Int)) W := fun W => index_strOf W (d :: T) 0 (by simp)
                  by_cases hd0 : d.toNat = 0
                  · have HU : Hid (readUint 0 (c :: B2) = (11, [], 0)) := by
                      show _ = _
                      have hne : numErr (c :: B2) = 11 := by rw [hB5]; exact numErr_front h8 (by rw [← hB5]; exact hs) hcp hd0
                      unfold readUint
                      rw [if_neg (by simp), if_pos (by rw [hne]; simp), hne]
                    rw [hd0] at hixd
                    obtain ⟨z1, z2⟩ := set_second S5.out.1 S5.out.2 (by omega) (.int .i64 11)
                    obtain ⟨y0, y1, y2, y3⟩ := z1.two
                    obtain ⟨x0, x1, x2, x3⟩ := z2.two
                    clear hdr hB5 hd0 z1 z2 hcp
                    go_wp2
                    exact bodyPost_ret (v := .tuple #[.agg #[.string (strOf B4), .int .i64 11], .int .u64 0]) (by simp [results, Try.results34, go_sem, x0, x1]) rfl ⟨B4, by rw [HU.out]; rfl, (fun h => absurd h (by rw [HU.out]; decide)), by simp; omega, ((((HM4.out.setNew (Nat.le_refl _) _).setNew (Nat.le_refl _) _).setNew (Nat.le_refl _) _).setNew (Nat.le_succ _) _).setNew (Nat.le_succ _) _⟩
                  · have HU : Hid (readUint 0 (c :: B2) = (0, B4, valOf (d :: T))) := by
                      show _ = _
                      have hne : numErr (c :: B2) = 0 := by rw [hB5]; exact numErr_ok h8 (by rw [← hB5]; exact hs) hd0
                      unfold readUint
                      rw [if_neg (by simp), if_neg (by rw [hne]; simp), List.headD_cons, Nat.add_comm, List.drop_succ_cons, List.drop_succ_cons, List.drop_zero, ← HSE.out, ← hdr]
                    generalize d.toNat = y at hixd hd0
                    have hy0 : ((y : Int) == 0) = false := by rw [beq_eq_false_iff_ne]; omega
                    clear hdr hB5 hd0 hcp
                    go_wp2
                    exact bodyPost_ret (v := .tuple #[.agg #[.string (strOf B4), .int .i64 0], .int .u64 (valOf (d :: T) : Nat)]) (by simp [results, Try.results34, go_sem, l0, l1]) rfl ⟨B4, by rw [HU.out]; rfl, (fun _ => by rw [HU.out]), by simp; omega, (((HM4.out.setNew (Nat.le_refl _) _).setNew (Nat.le_refl _) _).setNew (Nat.le_succ _) _).setNew (Nat.le_succ _) _⟩
  · have hb2 : (E != 0) = true := by simp [he]
    have hb3 : (E == 0) = false := by simp [he]
    rw [readUint_err' he]
    have E1 := Lib.hid (readRaw_err' he B 1)
    unfold refOf
    go_enter Try.func34, Try.ntmps34
    go_wp2_with fail
    refine (HR.out _).mono ?_
    rintro e w2 ⟨B2, he1, hb2, hl2, m2⟩
    rw [E1.out] at he1
    unfold refOf at he1
    subst he1
    have M2 := Lib.hid m2
    have HE := Lib.hid he
    obtain ⟨bA, bB⟩ := two_boxes m2
    obtain ⟨a0, a1, a2, a3⟩ := bA.two
    obtain ⟨b0, b1, b2, b3⟩ := bB.two
    clear m2 bA bB hb2 he
    have hb2 : (E != 0) = true := by simp [HE.out]
    go_wp2_with fail
    exact bodyPost_ret (v := .tuple #[.agg #[.string (strOf B2), .int .i64 E], .int .u64 0]) (by simp [results, Try.results34, go_sem, b0, b1]) rfl ⟨B2, rfl, fun h => absurd h HE.out, hl2, ((((((Mods.refl Nil w).alloc _).alloc _).trans M2.out).setNew (by simp) _).setNew (by simp) _ |>.setNew (by simp) _).setNew (by simp) _⟩
end Go.Proofs.Ythkejoabppocoaa
end

section
/- The reference of layer 1: rows of bytes, and the end. -/
namespace Go.Proofs.Ythkejoabppocoaa
set_option maxRecDepth 100000
open Go.RowKit
set_option linter.unusedVariables false

theorem rend_any (w : World) (B : List UInt8) (E : Int) :
    Calls Try.prog 36 #[refOf B E] w fun e w' => e = .returned (.int .i64 (if E = 0 then (if B = [] then 0 else 12) else E)) ∧ Mods Nil w w' := by
  unfold refOf
  have ks := strOf_toList B
  by_cases he : E = 0
  · subst he
    rcases B with _ | ⟨c, r⟩
    · go_enter Try.func36, Try.ntmps36
      go_wp2
      go_ret
      exact ⟨rfl, (Mods.refl _ _).alloc _⟩
    · go_enter Try.func36, Try.ntmps36
      go_wp2
      go_ret
      exact ⟨rfl, (Mods.refl _ _).alloc _⟩
  · have hb2 : (E != 0) = true := by simp [he]
    have hb3 : (E == 0) = false := by simp [he]
    rw [if_neg he]
    go_enter Try.func36, Try.ntmps36
    go_wp2
    go_ret
    exact ⟨rfl, (Mods.refl _ _).alloc _⟩

theorem valOf_lt64' (xs : List UInt8) (err : Int) : (readUint err xs).2.2 < 18446744073709551616 := valOf_lt64 xs err

set_option maxHeartbeats 1600000 in
theorem rbytesr_any (w : World) (B : List UInt8) (E most : Int) (hmost : most ≤ 9223372036854775807) (hB : B.length ≤ 140737488355328) :
    Calls Try.prog 35 #[refOf B E, .int .i64 most] w (RTold w B (readBytes E B most)) := by
  have hR := fun W => rread_any W B E hB
  have hq := valOf_lt64 B E
  have hql := readUint_le B E
  unfold readBytes
  generalize readUint E B = R at hR hq hql
  obtain ⟨e1, ys, q⟩ := R
  simp only at hq hql ⊢
  have HR := Lib.hid hR
  clear hR
  unfold refOf
  by_cases he : e1 = 0
  · subst he
    rw [if_neg (by simp)]
    by_cases hm : most < 0
    · rw [if_pos (.inl hm)]
      have hm' : decide (most < 0) = true := by simpa using hm
      go_enter Try.func35, Try.ntmps35
      go_wp2_with fail
      refine (HR.out _).mono ?_
      rintro e w2 ⟨B2, he, hb2, hl2, m2⟩
      obtain rfl : B2 = ys := hb2 rfl
      unfold refOf at he
      simp only at he
      subst he
      have M2 := Lib.hid m2
      obtain ⟨bA, bB⟩ := two_boxes m2
      obtain ⟨a0, a1, a2, a3⟩ := bA.two
      obtain ⟨bA2, bB2⟩ := set_both bA bB (by omega) (.string (strOf B2)) (.int .i64 0)
      obtain ⟨bA3, bB3⟩ := set_second bA2 bB2 (by omega) (.int .i64 13)
      obtain ⟨c0, c1, c2, c3⟩ := bA2.two
      obtain ⟨d0, d1, d2, d3⟩ := bA3.two
      obtain ⟨f0, f1, f2, f3⟩ := bB3.two
      clear m2 bA bB bA2 bB2 bA3 bB3
      go_wp2_with fail
      exact bodyPost_ret (v := .tuple #[.agg #[.string (strOf B2), .int .i64 13], .string ⟨#[]⟩]) (by simp [results, Try.results35, go_sem, f0, f1]) rfl ⟨B2, rfl, fun h => absurd h (by decide), hl2, ((((((Mods.refl Nil w).alloc _).alloc _).trans M2.out).setNew (Nat.le_refl _) _).setNew (Nat.le_refl _) _ |>.setNew (Nat.le_refl _) _ |>.setNew (Nat.le_succ _) _).setNew (Nat.le_succ _) _⟩
    · have hm' : decide (most < 0) = false := by simpa using hm
      have hw : IntKind.u64.wrap most = most := by rw [IntKind.wrap_u64]; omega
      by_cases hb : most < (q : Int)
      · rw [if_pos (.inr hb)]
        go_enter Try.func35, Try.ntmps35
        go_wp2_with fail
        refine (HR.out _).mono ?_
        rintro e w2 ⟨B2, he, hb2, hl2, m2⟩
        obtain rfl : B2 = ys := hb2 rfl
        unfold refOf at he
        simp only at he
        subst he
        have M2 := Lib.hid m2
        obtain ⟨bA, bB⟩ := two_boxes m2
        obtain ⟨a0, a1, a2, a3⟩ := bA.two
        obtain ⟨bA2, bB2⟩ := set_both bA bB (by omega) (.string (strOf B2)) (.int .i64 0)
        obtain ⟨bA3, bB3⟩ := set_second bA2 bB2 (by omega) (.int .i64 13)
        obtain ⟨c0, c1, c2, c3⟩ := bA2.two
        obtain ⟨d0, d1, d2, d3⟩ := bA3.two
        obtain ⟨f0, f1, f2, f3⟩ := bB3.two
        clear m2 bA bB bA2 bB2 bA3 bB3 hq
        go_wp2_with fail
        exact bodyPost_ret (v := .tuple #[.agg #[.string (strOf B2), .int .i64 13], .string ⟨#[]⟩]) (by simp [results, Try.results35, go_sem, f0, f1]) rfl ⟨B2, rfl, fun h => absurd h (by decide), hl2, ((((((Mods.refl Nil w).alloc _).alloc _).trans M2.out).setNew (Nat.le_refl _) _).setNew (Nat.le_refl _) _ |>.setNew (Nat.le_refl _) _ |>.setNew (Nat.le_succ _) _).setNew (Nat.le_succ _) _⟩
      · rw [if_neg (fun h => h.elim hm hb)]
        have hq2 : (q : Int) ≤ 9223372036854775807 := by omega
        have hR2 := fun W => rraw_any W ys 0 (q : Int) (by omega)
        have HR2 := Lib.hid hR2
        clear hR2 hq
        go_enter Try.func35, Try.ntmps35
        go_wp2_with fail
        refine (HR.out _).mono ?_
        rintro e w2 ⟨B2, he, hb2, hl2, m2⟩
        obtain rfl : B2 = ys := hb2 rfl
        unfold refOf at he
        simp only at he
        subst he
        have M2 := Lib.hid m2
        obtain ⟨bA, bB⟩ := two_boxes m2
        obtain ⟨a0, a1, a2, a3⟩ := bA.two
        obtain ⟨bA2, bB2⟩ := set_both bA bB (by omega) (.string (strOf B2)) (.int .i64 0)
        obtain ⟨c0, c1, c2, c3⟩ := bA2.two
        have BB2 := Lib.hid bB2
        have HM2 : Hid (Mods Nil w ((w2.setCell ⟨w.heap.size, 0, none⟩ (.string (strOf B2))).setCell ⟨w.heap.size, 1, none⟩ (.int .i64 0))) := (((((Mods.refl Nil w).alloc _).alloc _).trans M2.out).setNew (Nat.le_refl _) _).setNew (Nat.le_refl _) _
        clear m2 bA bB bA2 bB2
        go_wp2_with fail
        refine (HR2.out _).mono ?_
        rintro e w4 ⟨B4, he, hb4, hl4, m4⟩
        unfold refOf at he
        subst he
        obtain ⟨f0, f1, f2, f3⟩ := (BB2.out.mods m4 (fun h => h)).two
        have HM4 := Lib.hid (HM2.out.trans m4)
        have HB4 := Lib.hid hb4
        clear m4 hb4
        go_wp2_with fail
        exact bodyPost_ret (v := .tuple #[.agg #[.string (strOf B4), .int .i64 (readRaw 0 B2 (q : Int)).1], .string (strOf (readRaw 0 B2 (q : Int)).2.2)]) (by simp [results, Try.results35, go_sem, f0, f1]) rfl ⟨B4, rfl, HB4.out, Nat.le_trans hl4 hl2, (HM4.out.setNew (Nat.le_succ _) _).setNew (Nat.le_succ _) _⟩
  · rw [if_pos he]
    have hb3 : (e1 == 0) = false := by simp [he]
    have hb4 : (e1 != 0) = true := by simp [he]
    go_enter Try.func35, Try.ntmps35
    go_wp2_with fail
    refine (HR.out _).mono ?_
    rintro e w2 ⟨B2, he1, hb2, hl2, m2⟩
    unfold refOf at he1
    simp only at he1
    subst he1
    have M2 := Lib.hid m2
    obtain ⟨bA, bB⟩ := two_boxes m2
    obtain ⟨a0, a1, a2, a3⟩ := bA.two
    obtain ⟨b0, b1, b2, b3⟩ := bB.two
    have HE := Lib.hid he
    clear m2 bA bB hb2 he
    go_wp2_with fail
    exact bodyPost_ret (v := .tuple #[.agg #[.string (strOf B2), .int .i64 e1], .string ⟨#[]⟩]) (by simp [results, Try.results35, go_sem, b0, b1]) rfl ⟨B2, rfl, fun h => absurd h HE.out, hl2, ((((((Mods.refl Nil w).alloc _).alloc _).trans M2.out).setNew (Nat.le_refl _) _).setNew (Nat.le_refl _) _ |>.setNew (Nat.le_succ _) _).setNew (Nat.le_succ _) _⟩
end Go.Proofs.Ythkejoabppocoaa
end
