/- Package ballot: split, join, Make, Round, Node, Next. -/
import Derived.Test.YtgpobofekjfcdaaBaseM
import Derived.Test.YtgpobofekjfcdaaMemX
import Derived.Laws.StructEq
import Derived.Deep.RegionHeld
namespace Go.Proofs.Ytgpobofekjfcdaa
set_option maxRecDepth 100000
open Go.RowKit
set_option linter.unusedVariables false
set_option linter.unusedSimpArgs false

/-- What Make tells: the ballot and the error's number. -/
def bMakeN (r : Nat) (j : Int) : Nat := if j < 0 ∨ 32 ≤ j then 0 else if 576460752303423488 ≤ r then 0 else 32 * r + j.toNat
def bMakeE (r : Nat) (j : Int) : Nat := if j < 0 ∨ 32 ≤ j then 1 else if 576460752303423488 ≤ r then 37 else 0
/-- The round that Next asks for. -/
def bUp (b : Nat) (j : Int) : Nat := if j ≤ ((b % 32 : Nat) : Int) then b / 32 + 1 else b / 32

theorem bsplit_any (w : World) {b : Nat} (hb : b < 18446744073709551616) : Calls Try.prog 15 #[.int .u64 (b : Int)] w fun e w' => e = .returned (.agg #[.int .u64 ((b / 32 : Nat) : Int), .int .i64 ((b % 32 : Nat) : Int)]) ∧ Mods Nil w w' := by
  obtain ⟨q, hq⟩ : ∃ q, b / 32 = q := ⟨_, rfl⟩
  obtain ⟨r, hr⟩ : ∃ r, b % 32 = r := ⟨_, rfl⟩
  have hqI : (b : Int) / 32 = (q : Int) := by omega
  have hrI : (b : Int) % 32 = (r : Int) := by omega
  rw [hq, hr]
  clear hq hr
  have HB := Lib.hid (Blk.new w 36 #[.int .u64 (q : Int), .int .i64 (r : Int)])
  go_enter Try.func15, Try.ntmps15
  go_wp2
  refine bodyPost_ret (v := .agg #[.int .u64 (q : Int), .int .i64 (r : Int)]) (by simp [results, Try.results15, go_sem]) rfl ⟨rfl, (Mods.refl Nil w).alloc _⟩

theorem bor_any {r n : Nat} (hn : n < 32) : bits .or .u64 (IntKind.u64.wrap ((r : Int) * 32)) (n : Int) = ((r * 32 % 18446744073709551616 + n : Nat) : Int) := by
  have e1 : IntKind.u64.wrap ((r : Int) * 32) = ((r * 32 % 18446744073709551616 : Nat) : Int) := by rw [IntKind.wrap_u64]; omega
  rw [e1, u64_or_nat _ _ (by omega) (by omega), nat_join 5 (r * 32 % 18446744073709551616) n (by omega) (by omega)]

theorem bjoin_any (w : World) {r n : Nat} (hn : n < 32) : Calls Try.prog 14 #[.agg #[.int .u64 (r : Int), .int .i64 (n : Int)]] w fun e w' => e = .returned (.int .u64 ((r * 32 % 18446744073709551616 + n : Nat) : Int)) ∧ Mods Nil w w' := by
  have h := bor_any (r := r) hn
  have H := Lib.hid h
  clear h
  go_enter Try.func14, Try.ntmps14
  go_wp2
  go_ret
  exact ⟨by rw [H.out]; rfl, (Mods.refl Nil w).alloc _⟩

theorem bneq_any (W : World) (a c b d : Int) : (binOp .neq 36 (.agg #[.int .u64 a, .int .i64 b]) (.agg #[.int .u64 c, .int .i64 d])).run Try.prog W = .ok (.bool (!(a == c && b == d))) W := by
  by_cases h1 : a = c
  · by_cases h2 : b = d
    · simp [go_sem, h1, h2]
    · simp [go_sem, h1, h2]
  · simp [go_sem, h1]

theorem bfield0 (a b : Int) (W : World) : (Instr.field 36 (.agg #[.int .u64 a, .int .i64 b]) 0).run Try.prog W = .ok (.int .u64 a) W := by kernel_rfl
theorem bfield1 (a b : Int) (W : World) : (Instr.field 36 (.agg #[.int .u64 a, .int .i64 b]) 1).run Try.prog W = .ok (.int .i64 b) W := by kernel_rfl

theorem bround_any (w : World) {b : Nat} (hb : b < 18446744073709551616) : Calls Try.prog 12 #[.int .u64 (b : Int)] w fun e w' => e = .returned (.int .u64 ((b / 32 : Nat) : Int)) ∧ Mods Nil w w' := by
  have HS := Lib.hid (bsplit_any w hb)
  have hf := bfield0
  clear hb
  go_enter Try.func12, Try.ntmps12
  go_wp2_with (go_at_call 15; refine (HS.out).mono ?_; rintro e w1 ⟨rfl, m1⟩; have M1 := Lib.hid m1; clear m1)
  go_ret
  exact ⟨rfl, M1.out⟩

theorem bnode_any (w : World) {b : Nat} (hb : b < 18446744073709551616) : Calls Try.prog 13 #[.int .u64 (b : Int)] w fun e w' => e = .returned (.int .i64 ((b % 32 : Nat) : Int)) ∧ Mods Nil w w' := by
  have HS := Lib.hid (bsplit_any w hb)
  have hf := bfield1
  clear hb
  go_enter Try.func13, Try.ntmps13
  go_wp2_with (go_at_call 15; refine (HS.out).mono ?_; rintro e w1 ⟨rfl, m1⟩; have M1 := Lib.hid m1; clear m1)
  go_ret
  exact ⟨rfl, M1.out⟩

theorem bMake_bad {r : Nat} {j : Int} (h : j < 0 ∨ 32 ≤ j) : bMakeN r j = 0 ∧ bMakeE r j = 1 := by
  unfold bMakeN bMakeE
  rw [if_pos h, if_pos h]
  exact ⟨rfl, rfl⟩
theorem bMake_worn {r : Nat} {j : Int} (h : ¬ (j < 0 ∨ 32 ≤ j)) (hr : 576460752303423488 ≤ r) : bMakeN r j = 0 ∧ bMakeE r j = 37 := by
  unfold bMakeN bMakeE
  rw [if_neg h, if_neg h, if_pos hr, if_pos hr]
  exact ⟨rfl, rfl⟩
theorem bMake_ok {r : Nat} {j : Int} (h : ¬ (j < 0 ∨ 32 ≤ j)) (hr : ¬ 576460752303423488 ≤ r) : bMakeN r j = 32 * r + j.toNat ∧ bMakeE r j = 0 := by
  unfold bMakeN bMakeE
  rw [if_neg h, if_neg h, if_neg hr, if_neg hr]
  exact ⟨rfl, rfl⟩

theorem bmake_any (w : World) {r : Nat} (hr : r < 18446744073709551616) {j : Int} : Calls Try.prog 8 #[.int .u64 (r : Int), .int .i64 j] w fun e w' => e = .returned (.tuple #[.int .u64 (bMakeN r j : Int), .int .i64 (bMakeE r j : Int)]) ∧ Mods Nil w w' := by
  by_cases hj : j < 0 ∨ 32 ≤ j
  · rw [(bMake_bad hj).1, (bMake_bad hj).2]
    by_cases h0 : j < 0
    · have h0d : decide (j < 0) = true := by simp; omega
      go_enter Try.func8, Try.ntmps8
      go_wp2
      go_ret2
      exact ⟨rfl, Mods.refl Nil w⟩
    · have h0d : decide (j < 0) = false := by simp; omega
      have h1d : decide ((32 : Int) ≤ j) = true := by simp; omega
      go_enter Try.func8, Try.ntmps8
      go_wp2
      go_ret2
      exact ⟨rfl, Mods.refl Nil w⟩
  · obtain ⟨n, rfl⟩ : ∃ n : Nat, j = (n : Int) := ⟨j.toNat, by omega⟩
    have hn : n < 32 := by omega
    have h0d : decide ((n : Int) < 0) = false := by simp
    have h1d : decide ((32 : Int) ≤ (n : Int)) = false := by simp; omega
    have h1n : decide (32 ≤ n) = false := by simp; omega
    obtain ⟨b, hb⟩ : ∃ b, r * 32 % 18446744073709551616 + n = b := ⟨_, rfl⟩
    have HJ : Hid (∀ V, Calls Try.prog 14 #[.agg #[.int .u64 (r : Int), .int .i64 (n : Int)]] V fun e w' => e = .returned (.int .u64 (b : Int)) ∧ Mods Nil V w') := Lib.hid (fun V => by rw [← hb]; exact bjoin_any V hn)
    have hbl : b < 18446744073709551616 := by omega
    obtain ⟨q, hq⟩ : ∃ q, b / 32 = q := ⟨_, rfl⟩
    have hbn : b % 32 = n := by omega
    have HSP : Hid (∀ V, Calls Try.prog 15 #[.int .u64 (b : Int)] V fun e w' => e = .returned (.agg #[.int .u64 (q : Int), .int .i64 (n : Int)]) ∧ Mods Nil V w') := Lib.hid (fun V => by have h := bsplit_any V hbl; rw [hq, hbn] at h; exact h)
    have HB0 := Lib.hid (Blk.new w 36 #[.int .u64 (r : Int), .int .i64 (n : Int)])
    by_cases hr9 : 576460752303423488 ≤ r
    · rw [(bMake_worn hj hr9).1, (bMake_worn hj hr9).2]
      have hne : ∀ W, (binOp .neq 36 (.agg #[.int .u64 (q : Int), .int .i64 (n : Int)]) (.agg #[.int .u64 (r : Int), .int .i64 (n : Int)])).run Try.prog W = .ok (.bool true) W := fun W => by
        rw [bneq_any]
        have : ((q : Int) == (r : Int)) = false := by rw [beq_eq_false_iff_ne]; omega
        rw [this]
        rfl
      clear hj hr hr9 hn hb hbl hq hbn
      go_enter Try.func8, Try.ntmps8
      go_wp2_with (go_at_call 14; refine (HJ.out _).mono ?_; rintro e w1 ⟨rfl, m1⟩; have M1 := Lib.hid (((Mods.refl Nil w).alloc _).trans m1); have hc0 : ∀ V, Mods Nil w1 V → V.cell? ⟨w.heap.size, 0, none⟩ = some (.int .u64 (r : Int)) := (fun V hV => ((HB0.out.mods m1 (fun h => h)).mods hV (fun h => h)).cell 0); have hc1 : ∀ V, Mods Nil w1 V → V.cell? ⟨w.heap.size, 1, none⟩ = some (.int .i64 (n : Int)) := (fun V hV => ((HB0.out.mods m1 (fun h => h)).mods hV (fun h => h)).cell 1); clear m1)
      go_region_held (fun W => Mods Nil w1 W) (first | assumption | exact (Mods.refl Nil w1).drew) (first
        | (go_at_call 15; refine (HSP.out _).mono ?_; rintro e w2 ⟨rfl, m2⟩; have m := Mods.trans (by assumption) m2))
      go_wp2
      go_ret2
      exact ⟨rfl, M1.out.trans (by assumption)⟩
    · rw [(bMake_ok hj hr9).1, (bMake_ok hj hr9).2]
      obtain rfl : q = r := by omega
      have hne : ∀ W, (binOp .neq 36 (.agg #[.int .u64 (q : Int), .int .i64 (n : Int)]) (.agg #[.int .u64 (q : Int), .int .i64 (n : Int)])).run Try.prog W = .ok (.bool false) W := fun W => by
        rw [bneq_any]
        simp
      have HE := Lib.hid (show 32 * q + ((n : Int)).toNat = b by omega)
      rw [HE.out]
      clear hj hr hr9 hn hb hbl hq hbn HE
      go_enter Try.func8, Try.ntmps8
      go_wp2_with (go_at_call 14; refine (HJ.out _).mono ?_; rintro e w1 ⟨rfl, m1⟩; have M1 := Lib.hid (((Mods.refl Nil w).alloc _).trans m1); have hc0 : ∀ V, Mods Nil w1 V → V.cell? ⟨w.heap.size, 0, none⟩ = some (.int .u64 (q : Int)) := (fun V hV => ((HB0.out.mods m1 (fun h => h)).mods hV (fun h => h)).cell 0); have hc1 : ∀ V, Mods Nil w1 V → V.cell? ⟨w.heap.size, 1, none⟩ = some (.int .i64 (n : Int)) := (fun V hV => ((HB0.out.mods m1 (fun h => h)).mods hV (fun h => h)).cell 1); clear m1)
      go_region_held (fun W => Mods Nil w1 W) (first | assumption | exact (Mods.refl Nil w1).drew) (first
        | (go_at_call 15; refine (HSP.out _).mono ?_; rintro e w2 ⟨rfl, m2⟩; have m := Mods.trans (by assumption) m2))
      go_wp2
      go_ret2
      exact ⟨rfl, M1.out.trans (by assumption)⟩

theorem bnext_any (w : World) {b : Nat} (hb : b < 18446744073709551616) {j : Int} : Calls Try.prog 10 #[.int .u64 (b : Int), .int .i64 j] w fun e w' => e = .returned (.tuple #[.int .u64 (bMakeN (bUp b j) j : Int), .int .i64 (bMakeE (bUp b j) j : Int)]) ∧ Mods Nil w w' := by
  obtain ⟨q, hq⟩ : ∃ q, b / 32 = q := ⟨_, rfl⟩
  obtain ⟨n, hn⟩ : ∃ n, b % 32 = n := ⟨_, rfl⟩
  have HSP : Hid (Calls Try.prog 15 #[.int .u64 (b : Int)] w fun e w' => e = .returned (.agg #[.int .u64 (q : Int), .int .i64 (n : Int)]) ∧ Mods Nil w w') := Lib.hid (by have h := bsplit_any w hb; rw [hq, hn] at h; exact h)
  have HQ := Lib.hid (show q + 1 < 18446744073709551616 by omega)
  obtain ⟨u, hu⟩ : ∃ u, bUp b j = u := ⟨_, rfl⟩
  rw [hu]
  unfold bUp at hu
  rw [hq, hn] at hu
  have hul : u < 18446744073709551616 := by have := HQ.out; split at hu <;> omega
  have HM : Hid (∀ V, Calls Try.prog 8 #[.int .u64 (u : Int), .int .i64 j] V fun e w' => e = .returned (.tuple #[.int .u64 (bMakeN u j : Int), .int .i64 (bMakeE u j : Int)]) ∧ Mods Nil V w') := Lib.hid (fun V => bmake_any V hul)
  obtain ⟨x, hx⟩ : ∃ x, bMakeN u j = x := ⟨_, rfl⟩
  obtain ⟨y, hy⟩ : ∃ y, bMakeE u j = y := ⟨_, rfl⟩
  rw [hx, hy] at HM
  rw [hx, hy]
  clear hx hy hb hq hn hul
  by_cases hjn : j ≤ (n : Int)
  · rw [if_pos hjn] at hu
    have hjd : decide (j ≤ (n : Int)) = true := by simp; omega
    have hw : IntKind.u64.wrap ((q : Int) + 1) = (u : Int) := by rw [IntKind.wrap_u64]; have := HQ.out; omega
    clear hu hjn
    go_enter Try.func10, Try.ntmps10
    go_wp2_with (first
      | (go_at_call 8; refine (HM.out _).mono ?_; rintro e w2 ⟨rfl, m2⟩)
      | (go_at_call 15; refine (HSP.out).mono ?_; rintro e w1 ⟨rfl, m1⟩; have M1 := Lib.hid m1; clear m1))
    go_ret2
    exact ⟨rfl, (M1.out.alloc _).trans m2⟩
  · rw [if_neg hjn] at hu
    subst hu
    have hjd : decide (j ≤ (n : Int)) = false := by simp; omega
    clear hjn
    go_enter Try.func10, Try.ntmps10
    go_wp2_with (first
      | (go_at_call 8; refine (HM.out _).mono ?_; rintro e w2 ⟨rfl, m2⟩)
      | (go_at_call 15; refine (HSP.out).mono ?_; rintro e w1 ⟨rfl, m1⟩; have M1 := Lib.hid m1; clear m1))
    go_ret2
    exact ⟨rfl, (M1.out.alloc _).trans m2⟩
end Go.Proofs.Ytgpobofekjfcdaa
