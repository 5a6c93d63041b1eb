/- The reference of layer 7: Need, number, Part, right. -/
import Derived.Test.YtdllgmhipenidaaRefM2
import Derived.Test.YtdllgmhipenidaaSegP
import Derived.Deep.RegionHeld
import Derived.Deep.QuietTactic
import Derived.BigQuiet
namespace Go.Proofs.Ytdllgmhipenidaa
set_option maxRecDepth 100000
open Go.RowKit
set_option linter.unusedVariables false

theorem rneed_any (w : World) {n : Nat} (h : n ≤ 1000000) : Calls Try.prog 73 #[.int .i64 (n : Int)] w fun e w' => e = .returned (.int .i64 (needP n : Nat)) ∧ w = w' := by
  obtain ⟨q, hq⟩ : ∃ q, needP n = q := ⟨_, rfl⟩
  have hq1 : 1 ≤ q := by rw [← hq]; exact needP_pos n
  have hqn : 1 < q → 45 * (q - 1) < n := fun h1 => by unfold needP at hq; split at hq <;> omega
  have hqe : n ≤ 45 * q := by rw [← hq]; exact needP_end n
  rw [hq]
  clear hq
  have HQ := Lib.hid hqn
  have HE := Lib.hid hqe
  clear hqn hqe
  go_enter Try.func73, Try.ntmps73
  go_wp2_with fail
  go_loopw [3] (fun x wr => ∃ (j : Nat), 1 ≤ j ∧ j ≤ q ∧ x = .int .i64 (j : Int) ∧ w = wr) (fun x _ => q - (intOf x).toNat)
  case atStart => exact ⟨1, by omega, hq1, rfl, rfl⟩
  case round =>
    obtain ⟨j, hj1, hj, rfl, rfl⟩ := hrel
    by_cases hlt : j < q
    · have hm : IntKind.i64.wrap ((j : Int) * 45) = (j : Int) * 45 := by rw [IntKind.wrap_i64]; have := HQ.out (by omega); omega
      have hw : IntKind.i64.wrap ((j : Int) + 1) = (j : Int) + 1 := by rw [IntKind.wrap_i64]; have := HQ.out (by omega); omega
      have hlI : (j : Int) * 45 < (n : Int) := by have := HQ.out (by omega); omega
      go_wp2_with fail
      exact ⟨⟨j + 1, by omega, by omega, by go_num, by first | rfl | trivial⟩, by simp [intOf]; omega⟩
    · obtain rfl : j = q := by omega
      have hm : IntKind.i64.wrap ((j : Int) * 45) = (j : Int) * 45 := by
        rw [IntKind.wrap_i64]
        have := HQ.out
        by_cases h1 : 1 < j
        · have := this h1; omega
        · omega
      have hlI : (n : Int) ≤ (j : Int) * 45 := by have := HE.out; omega
      go_wp2_with fail
      go_ret
      exact ⟨rfl, rfl⟩
theorem rnumber_q (w : World) {xs : List UInt8} {n : Nat} (hn : xs.length = n) (h4 : 4 ≤ n) : Calls Try.prog 68 #[.string (strOf xs)] w fun e w' => e = .returned (.int .u64 (numP xs 0 : Nat)) ∧ ∃ m, w' = w.drewN m := by
  have i0 : ∀ W : World, (Instr.index 9 (.string (strOf xs)) (.int .i64 0)).run Try.prog W = .ok (.int .u8 ((xs[0]'(by omega)).toNat : Int)) W := fun W => index_strOf W xs 0 (by omega)
  have i1 : ∀ W : World, (Instr.index 9 (.string (strOf xs)) (.int .i64 1)).run Try.prog W = .ok (.int .u8 ((xs[1]'(by omega)).toNat : Int)) W := fun W => index_strOf W xs 1 (by omega)
  have i2 : ∀ W : World, (Instr.index 9 (.string (strOf xs)) (.int .i64 2)).run Try.prog W = .ok (.int .u8 ((xs[2]'(by omega)).toNat : Int)) W := fun W => index_strOf W xs 2 (by omega)
  have i3 : ∀ W : World, (Instr.index 9 (.string (strOf xs)) (.int .i64 3)).run Try.prog W = .ok (.int .u8 ((xs[3]'(by omega)).toNat : Int)) W := fun W => index_strOf W xs 3 (by omega)
  have e : numP xs 0 = (xs[0]'(by omega)).toNat * 16777216 + (xs[1]'(by omega)).toNat * 65536 + (xs[2]'(by omega)).toNat * 256 + (xs[3]'(by omega)).toNat := by
    simp [numP, byteP, List.getD_eq_getElem?_getD, show 0 < xs.length by omega, show 1 < xs.length by omega, show 2 < xs.length by omega, show 3 < xs.length by omega]
  have b0 := (xs[0]'(by omega)).toNat_lt
  have b1 := (xs[1]'(by omega)).toNat_lt
  have b2 := (xs[2]'(by omega)).toNat_lt
  have b3 := (xs[3]'(by omega)).toNat_lt
  generalize (xs[0]'(by omega)).toNat = a at i0 e b0
  generalize (xs[1]'(by omega)).toNat = b at i1 e b1
  generalize (xs[2]'(by omega)).toNat = c at i2 e b2
  generalize (xs[3]'(by omega)).toNat = d at i3 e b3
  obtain ⟨q, hq⟩ : ∃ q, numP xs 0 = q := ⟨_, rfl⟩
  rw [hq] at e ⊢
  have eI : (a : Int) * 16777216 + (b : Int) * 65536 + (c : Int) * 256 + (d : Int) = (q : Int) := by omega
  clear e hn h4 hq
  go_enter Try.func68, Try.ntmps68
  go_wp2_with fail
  go_quiet (fail)
  all_goals
    go_wp2_with fail
    go_ret
    exact ⟨rfl, nq, rfl⟩
theorem rnumber_any (w : World) {xs : List UInt8} {n : Nat} (hn : xs.length = n) (h4 : 4 ≤ n) : Calls Try.prog 68 #[.string (strOf xs)] w fun e w' => e = .returned (.int .u64 (numP xs 0 : Nat)) ∧ Mods Nil w w' :=
  (rnumber_q w hn h4).mono fun e w' ⟨h1, m, h2⟩ => ⟨h1, by rw [h2]; exact (Mods.refl Nil w).drewN m⟩
theorem rpart_any (w : World) {s : List UInt8} {n : Nat} (hn : s.length = n) (hl : n ≤ 1000000) {k : Nat} (hk : 45 * k ≤ n) : Calls Try.prog 74 #[.string (strOf s), .int .i64 (k : Int)] w fun e w' => e = .returned (.string (strOf (partP s k))) ∧ w = w' := by
  have hsz : (strOf s).size = n := by simp [hn]
  have hk0 : (0 : Int) ≤ 45 * (k : Int) := by omega
  have hkn : 45 * (k : Int) ≤ (n : Int) := by omega
  have hkt : (45 * (k : Int)).toNat = 45 * k := by omega
  by_cases hb : n < 45 * k + 45
  · have hbI : (n : Int) < 45 * (k : Int) + 45 := by omega
    have hx : (strOf s).extract (45 * k) n = strOf (partP s k) := by
      rw [strOf_extract]
      unfold partP
      rw [List.take_of_length_le (by simp; omega), List.take_of_length_le (by simp; omega)]
    have HX := Lib.hid hx
    clear hn hb hx
    go_enter Try.func74, Try.ntmps74
    go_wp2_with fail
    go_ret
    rw [HX.out]
    exact ⟨rfl, rfl⟩
  · have hbI : 45 * (k : Int) + 45 ≤ (n : Int) := by omega
    have hkk : 45 * (k : Int) ≤ 45 * (k : Int) + 45 := by omega
    have hkt2 : (45 * (k : Int) + 45).toNat = 45 * k + 45 := by omega
    have hx : (strOf s).extract (45 * k) (45 * k + 45) = strOf (partP s k) := by
      rw [strOf_extract]
      unfold partP
      rw [Nat.add_sub_cancel_left]
    clear hn hb
    go_enter Try.func74, Try.ntmps74
    go_wp2_with fail
    go_ret
    exact ⟨rfl, rfl⟩
theorem r7right_any (w : World) {b : List UInt8} (h : b.length = 64) : Calls Try.prog 118 #[.string (strOf b)] w fun e w' => e = .returned (.bool (rightP b)) ∧ Mods Nil w w' := by
  have hsz : (strOf b).size = 64 := by simp [h]
  have x1 : (strOf b).extract 0 60 = strOf (b.take 60) := by rw [strOf_extract]; simp
  have x2 : (strOf b).extract 0 4 = strOf (b.take 4) := by rw [strOf_extract]; simp
  have x3 : (strOf b).extract 60 64 = strOf (b.drop 60) := by rw [strOf_extract, List.take_of_length_le (by simp [h])]
  have hl : (b.take 60).length ≤ 140737488355328 := by simp; omega
  have HR := Lib.hid (fun W => rright_any W (b.take 60) hl)
  have e1 := strOf_toList (b.take 4)
  have e2 := strOf_toList (b.drop 60)
  have hr : rightP b = (rightOf (b.take 60) && (b.take 4 == b.drop 60)) := by
    unfold rightP
    congr 1
    rw [Bool.eq_iff_iff]
    simp
  rw [hr]
  cases hs : rightOf (b.take 60) with
  | true =>
    rw [hs] at HR
    clear hr hl h hs
    go_enter Try.func118, Try.ntmps118
    go_wp2_with (go_at_call 126; refine (HR.out _).mono ?_; rintro e w1 ⟨rfl, m1⟩; have M1 := Lib.hid m1; clear m1)
    go_quiet (fail)
    all_goals
      go_wp2_with fail
      go_ret
      exact ⟨rfl, M1.out.drewN nq⟩
  | false =>
    rw [hs] at HR
    clear hr hl h hs
    go_enter Try.func118, Try.ntmps118
    go_wp2_with (go_at_call 126; refine (HR.out _).mono ?_; rintro e w1 ⟨rfl, m1⟩; have M1 := Lib.hid m1; clear m1)
    go_quiet (fail)
    all_goals
      go_wp2_with fail
      go_ret
      exact ⟨rfl, M1.out.drewN nq⟩
end Go.Proofs.Ytdllgmhipenidaa
