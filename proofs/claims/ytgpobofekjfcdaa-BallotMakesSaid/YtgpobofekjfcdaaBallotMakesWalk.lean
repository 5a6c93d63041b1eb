/- BallotMakes' walk. -/
import Derived.Test.YtgpobofekjfcdaaAwake12
import Derived.Test.YtgpobofekjfcdaaRef12
import Derived.Test.YtgpobofekjfcdaaOpen
namespace Go.Proofs.Ytgpobofekjfcdaa
set_option maxRecDepth 1000000
open Go.RowKit
set_option linter.unusedVariables false
set_option linter.unusedSimpArgs false

set_option maxHeartbeats 1600000 in
theorem ballotMakes_walk (w : World) {ri : Int} (wr : (Lit.int .u64 ri).wf = true) {bi : Int} (wb : (Lit.int .u64 bi).wf = true) {j : Int} (wj : (Lit.int .i64 j).wf = true) :
    Calls Try.prog 3 #[.int .u64 ri, .int .u64 bi, .int .i64 j] w fun e w' => e = .returned (.bool true) ∧ Mods Nil w w' := by
  have hr0 := u64_of_wf wr
  have hb0 := u64_of_wf wb
  obtain ⟨r, rfl⟩ : ∃ r : Nat, ri = (r : Int) := ⟨ri.toNat, by omega⟩
  obtain ⟨b, rfl⟩ : ∃ b : Nat, bi = (b : Int) := ⟨bi.toNat, by omega⟩
  have hr : r < 18446744073709551616 := by omega
  have hb : b < 18446744073709551616 := by omega
  clear wr wb wj hr0 hb0
  obtain ⟨x, hx⟩ : ∃ x, bMakeN r j = x := ⟨_, rfl⟩
  obtain ⟨y, hy⟩ : ∃ y, bMakeE r j = y := ⟨_, rfl⟩
  obtain ⟨p, hp⟩ : ∃ p, bMakeN (bUp b j) j = p := ⟨_, rfl⟩
  obtain ⟨g, hg⟩ : ∃ g, bMakeE (bUp b j) j = g := ⟨_, rfl⟩
  obtain ⟨k, hk⟩ : ∃ k, b / 32 = k := ⟨_, rfl⟩
  obtain ⟨n, hn⟩ : ∃ n, b % 32 = n := ⟨_, rfl⟩
  have H1 : Hid (∀ V, Calls Try.prog 8 #[.int .u64 (r : Int), .int .i64 j] V fun e w' => e = .returned (.tuple #[.int .u64 (x : Int), .int .i64 (y : Int)]) ∧ Mods Nil V w') := Lib.hid (fun V => by rw [← hx, ← hy]; exact bmake_any V hr)
  have H2 : Hid (∀ V, Calls Try.prog 9 #[.int .u64 (r : Int), .int .i64 j] V fun e w' => e = .returned (.tuple #[.int .u64 (x : Int), .int .i64 (y : Int)]) ∧ Mods Nil V w') := Lib.hid (fun V => by rw [← hx, ← hy]; exact r12make_any V hr)
  have H3 : Hid (∀ V, Calls Try.prog 10 #[.int .u64 (b : Int), .int .i64 j] V fun e w' => e = .returned (.tuple #[.int .u64 (p : Int), .int .i64 (g : Int)]) ∧ Mods Nil V w') := Lib.hid (fun V => by rw [← hp, ← hg]; exact bnext_any V hb)
  have H4 : Hid (∀ V, Calls Try.prog 11 #[.int .u64 (b : Int), .int .i64 j] V fun e w' => e = .returned (.tuple #[.int .u64 (p : Int), .int .i64 (g : Int)]) ∧ Mods Nil V w') := Lib.hid (fun V => by rw [← hp, ← hg]; exact r12next_any V hb)
  have H5 : Hid (∀ V, Calls Try.prog 12 #[.int .u64 (b : Int)] V fun e w' => e = .returned (.int .u64 (k : Int)) ∧ Mods Nil V w') := Lib.hid (fun V => by rw [← hk]; exact bround_any V hb)
  have H6 : Hid (∀ V, Calls Try.prog 13 #[.int .u64 (b : Int)] V fun e w' => e = .returned (.int .i64 (n : Int)) ∧ Mods Nil V w') := Lib.hid (fun V => by rw [← hn]; exact bnode_any V hb)
  have hkI : (b : Int) / 32 = (k : Int) := by omega
  have hnI : (b : Int) % 32 = (n : Int) := by omega
  have hkw : IntKind.u64.wrap (k : Int) = (k : Int) := by rw [IntKind.wrap_u64]; omega
  have hnw : IntKind.u64.wrap (n : Int) = (n : Int) := by rw [IntKind.wrap_u64]; omega
  clear hx hy hp hg hk hn hr hb
  go_enter Try.func3, Try.ntmps3
  go_wp2_with (first
    | (go_at_call 13; refine (H6.out _).mono ?_; rintro e w7 ⟨rfl, m7⟩; have M7 := Lib.hid (M6.out.trans m7); clear m7)
    | (go_at_call 12; refine (H5.out _).mono ?_; rintro e w6 ⟨rfl, m6⟩; have M6 := Lib.hid (M5.out.trans m6); clear m6)
    | (go_at_call 11; refine (H4.out _).mono ?_; rintro e w5 ⟨rfl, m5⟩; have M5 := Lib.hid (M4.out.trans m5); clear m5)
    | (go_at_call 10; refine (H3.out _).mono ?_; rintro e w4 ⟨rfl, m4⟩; have M4 := Lib.hid (M3.out.trans m4); clear m4)
    | (go_at_call 9; refine (H2.out _).mono ?_; rintro e w3 ⟨rfl, m3⟩; have M3 := Lib.hid (M2.out.trans m3); clear m3)
    | (go_at_call 8; refine (H1.out _).mono ?_; rintro e w2 ⟨rfl, m2⟩; have M2 := Lib.hid (M1.out.trans m2); clear m2)
    | (go_at_call 7; refine (awake12_any _).mono ?_; rintro e w1 ⟨rfl, m1⟩; have M1 := Lib.hid m1; clear m1))
  go_ret
  exact ⟨rfl, M7.out⟩
end Go.Proofs.Ytgpobofekjfcdaa
