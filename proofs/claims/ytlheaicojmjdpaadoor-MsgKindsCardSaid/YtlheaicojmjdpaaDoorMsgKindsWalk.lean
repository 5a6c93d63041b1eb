/- MsgKinds' walk: all together. -/
import Derived.Test.YtlheaicojmjdpaaDoorMsgKindsB
import Derived.Test.YtlheaicojmjdpaaDoorMsgKindsC
import Derived.Test.YtlheaicojmjdpaaDoorMsgKindsD
namespace Go.Proofs.YtlheaicojmjdpaaDoor
set_option maxRecDepth 100000
open Go.RowKit
set_option linter.unusedVariables false

theorem msgKinds_walk (w : World) (hT : Tab w) {kd : Int} (w1 : (Lit.int .i64 kd).wf = true) {a2 : Int} (w2 : (Lit.int .u8 a2).wf = true) :
    Calls Tryd.prog 6 #[.int .i64 kd, .int .u8 a2] w fun e w' => e = .returned (.bool true) ∧ Mods Nil w w' := by
  have hkd : -9223372036854775808 ≤ kd ∧ kd ≤ 9223372036854775807 := by
    simp only [Lit.wf, Bool.and_eq_true, decide_eq_true_eq] at w1
    have h1 : IntKind.i64.min = -9223372036854775808 := by decide
    have h2 : IntKind.i64.max = 9223372036854775807 := by decide
    omega
  have h2 := u8_of_wf w2
  obtain ⟨d, rfl⟩ := Int.eq_ofNat_of_zero_le h2.1
  have hd : d < 256 := by omega
  obtain ⟨k, hk⟩ : ∃ k, d % 10 = k := ⟨_, rfl⟩
  have hk10 : k < 10 := by omega
  by_cases hlo : kd < 1
  · revert hk
    revert k
    exact fun k hk10 hk => (ten_cases (p := fun k => d % 10 = k → _) (fun h => msgKinds_lo_0 w hT kd hkd d hd h hlo) (fun h => msgKinds_lo_1 w hT kd hkd d hd h hlo) (fun h => msgKinds_lo_2 w hT kd hkd d hd h hlo) (fun h => msgKinds_lo_3 w hT kd hkd d hd h hlo) (fun h => msgKinds_lo_4 w hT kd hkd d hd h hlo) (fun h => msgKinds_lo_5 w hT kd hkd d hd h hlo) (fun h => msgKinds_lo_6 w hT kd hkd d hd h hlo) (fun h => msgKinds_lo_7 w hT kd hkd d hd h hlo) (fun h => msgKinds_lo_8 w hT kd hkd d hd h hlo) (fun h => msgKinds_lo_9 w hT kd hkd d hd h hlo)) k hk10 hk
  · by_cases hhi : 18 < kd
    · revert hk
      revert k
      exact fun k hk10 hk => (ten_cases (p := fun k => d % 10 = k → _) (fun h => msgKinds_hi_0 w hT kd hkd d hd h hhi) (fun h => msgKinds_hi_1 w hT kd hkd d hd h hhi) (fun h => msgKinds_hi_2 w hT kd hkd d hd h hhi) (fun h => msgKinds_hi_3 w hT kd hkd d hd h hhi) (fun h => msgKinds_hi_4 w hT kd hkd d hd h hhi) (fun h => msgKinds_hi_5 w hT kd hkd d hd h hhi) (fun h => msgKinds_hi_6 w hT kd hkd d hd h hhi) (fun h => msgKinds_hi_7 w hT kd hkd d hd h hhi) (fun h => msgKinds_hi_8 w hT kd hkd d hd h hhi) (fun h => msgKinds_hi_9 w hT kd hkd d hd h hhi)) k hk10 hk
    · have hik : isK kd = true := by simp [isK]; omega
      revert hk
      revert k
      exact fun k hk10 hk => (ten_cases (p := fun k => d % 10 = k → _) (fun h => msgKinds_0 w hT kd hkd d hd h hik) (fun h => msgKinds_1 w hT kd hkd d hd h hik) (fun h => msgKinds_2 w hT kd hkd d hd h hik) (fun h => msgKinds_3 w hT kd hkd d hd h hik) (fun h => msgKinds_4 w hT kd hkd d hd h hik) (fun h => msgKinds_5 w hT kd hkd d hd h hik) (fun h => msgKinds_6 w hT kd hkd d hd h hik) (fun h => msgKinds_7 w hT kd hkd d hd h hik) (fun h => msgKinds_8 w hT kd hkd d hd h hik) (fun h => msgKinds_9 w hT kd hkd d hd h hik)) k hk10 hk
end Go.Proofs.YtlheaicojmjdpaaDoor
