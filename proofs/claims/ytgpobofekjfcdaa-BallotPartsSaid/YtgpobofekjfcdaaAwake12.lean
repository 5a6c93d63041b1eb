/- What the statements of layer 12 begin with: the document's example. -/
import Derived.Test.YtgpobofekjfcdaaBal1
namespace Go.Proofs.Ytgpobofekjfcdaa
set_option maxRecDepth 100000
open Go.RowKit
set_option linter.unusedVariables false
set_option linter.unusedSimpArgs false

theorem awake12_any (w : World) : Calls Try.prog 7 #[] w fun e w' => e = .returned (.bool true) ∧ Mods Nil w w' := by
  have H1 : Hid (∀ V, Calls Try.prog 8 #[.int .u64 1, .int .i64 1] V fun e w' => e = .returned (.tuple #[.int .u64 33, .int .i64 0]) ∧ Mods Nil V w') := Lib.hid (fun V => by have h := bmake_any V (r := 1) (j := 1) (by omega); exact h)
  have H2 : Hid (∀ V, Calls Try.prog 8 #[.int .u64 0, .int .i64 32] V fun e w' => e = .returned (.tuple #[.int .u64 0, .int .i64 1]) ∧ Mods Nil V w') := Lib.hid (fun V => by have h := bmake_any V (r := 0) (j := 32) (by omega); exact h)
  have H3 : Hid (∀ V, Calls Try.prog 10 #[.int .u64 33, .int .i64 0] V fun e w' => e = .returned (.tuple #[.int .u64 64, .int .i64 0]) ∧ Mods Nil V w') := Lib.hid (fun V => by have h := bnext_any V (b := 33) (j := 0) (by omega); exact h)
  have H4 : Hid (∀ V, Calls Try.prog 12 #[.int .u64 33] V fun e w' => e = .returned (.int .u64 1) ∧ Mods Nil V w') := Lib.hid (fun V => by have h := bround_any V (b := 33) (by omega); exact h)
  have H5 : Hid (∀ V, Calls Try.prog 13 #[.int .u64 33] V fun e w' => e = .returned (.int .i64 1) ∧ Mods Nil V w') := Lib.hid (fun V => by have h := bnode_any V (b := 33) (by omega); exact h)
  go_enter Try.func7, Try.ntmps7
  go_wp2_with (first
    | (go_at_call 13; refine (H5.out _).mono ?_; rintro e w5 ⟨rfl, m5⟩; have M5 := Lib.hid (M4.out.trans m5); clear m5)
    | (go_at_call 12; refine (H4.out _).mono ?_; rintro e w4 ⟨rfl, m4⟩; have M4 := Lib.hid (M3.out.trans m4); clear m4)
    | (go_at_call 10; refine (H3.out _).mono ?_; rintro e w2 ⟨rfl, m2⟩; have M2 := Lib.hid (M1.out.trans m2); clear m2)
    | (go_at_call 8; have hx := M2.out; clear hx; with_reducible refine (H2.out _).mono ?_; rintro e w3 ⟨rfl, m3⟩; have M3 := Lib.hid (M2.out.trans m3); clear m3)
    | (go_at_call 8; with_reducible refine (H1.out _).mono ?_; rintro e w1 ⟨rfl, m1⟩; have M1 := Lib.hid m1; clear m1))
  go_ret
  exact ⟨rfl, M5.out⟩
end Go.Proofs.Ytgpobofekjfcdaa
