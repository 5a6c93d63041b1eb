/- MsgKinds' walk: no kinds. -/
import Derived.Test.YtlheaicojmjdpaaDoorMsgKindsA
namespace Go.Proofs.YtlheaicojmjdpaaDoor
set_option maxRecDepth 100000
open Go.RowKit
set_option linter.unusedVariables false

set_option maxHeartbeats 8000000 in
theorem msgKinds_lo_0 (w : World) (hT : Tab w) (kd : Int) (hkd : -9223372036854775808 ≤ kd ∧ kd ≤ 9223372036854775807) (d : Nat) (hd : d < 256) (hdk : d % 10 = 0) (h1 : kd < 1) :
    Calls Tryd.prog 6 #[.int .i64 kd, .int .u8 d] w fun e w' => e = .returned (.bool true) ∧ Mods Nil w w' := by
    have HT := Lib.hid hT
    have hk : isK kd = false := by simp [isK]; omega

    clear hT
    have hok : PM.ok { kind := kd, ballot := 1 } := by constructor <;> simp <;> omega
    have HOK := Lib.hid hok
    have hmod : (d : Int) % 10 = 0 := by omega
    have hmod2 : (d : Int).tmod 10 = 0 := by rw [Int.tmod_eq_emod_of_nonneg (by omega)]; omega
    have HCK : Hid (chk { kind := kd, ballot := 1 } = 1) := chk_nokind hk
    clear hok hk
    go_enter Tryd.func6, Tryd.ntmps6
    go_wp2_with (go_at_call 9; refine (awake4_any _ HT.out).mono ?_; rintro e w1 ⟨rfl, m1⟩; have M1 := Lib.hid m1; have HT1 := Lib.hid (HT.out.mods m1 (fun h => h)); clear m1)
    have BB : Blk ((w1.alloc (.cells #[.int .i64 kd, .int .u64 1, .int .u64 0, .int .i64 0, .int .i64 0, .int .u64 0, .int .u64 0, .int .u64 0, .int .i64 0, .slice none 0 0, .slice none 0 0] 32)).alloc (.cells #[.string ⟨#[]⟩, .string ⟨#[104, 103, 99, 113, 120]⟩, .string ⟨#[104, 103, 99, 113, 112, 100]⟩, .string ⟨#[104, 103, 99, 113, 112, 120]⟩, .string ⟨#[104, 103, 112]⟩, .string ⟨#[104, 103, 112]⟩, .string ⟨#[104, 103, 118]⟩, .string ⟨#[98, 115]⟩, .string ⟨#[98, 115, 120]⟩, .string ⟨#[98, 115, 120]⟩, .string ⟨#[98, 115]⟩, .string ⟨#[98]⟩, .string ⟨#[115, 120]⟩, .string ⟨#[115]⟩, .string ⟨#[99, 113, 112]⟩, .string ⟨#[104, 103, 99, 113, 112, 100, 120]⟩, .string ⟨#[104, 103, 99, 113, 112, 100]⟩, .string ⟨#[99, 113, 112, 100]⟩, .string ⟨#[98, 115]⟩] 9)) w1.heap.size 32 (MC { kind := kd, ballot := 1 } {}) := by exact (Blk.new w1 32 (MC { kind := kd, ballot := 1 } {})).alloc _
    have MM : Mods Nil w ((w1.alloc (.cells #[.int .i64 kd, .int .u64 1, .int .u64 0, .int .i64 0, .int .i64 0, .int .u64 0, .int .u64 0, .int .u64 0, .int .i64 0, .slice none 0 0, .slice none 0 0] 32)).alloc (.cells #[.string ⟨#[]⟩, .string ⟨#[104, 103, 99, 113, 120]⟩, .string ⟨#[104, 103, 99, 113, 112, 100]⟩, .string ⟨#[104, 103, 99, 113, 112, 120]⟩, .string ⟨#[104, 103, 112]⟩, .string ⟨#[104, 103, 112]⟩, .string ⟨#[104, 103, 118]⟩, .string ⟨#[98, 115]⟩, .string ⟨#[98, 115, 120]⟩, .string ⟨#[98, 115, 120]⟩, .string ⟨#[98, 115]⟩, .string ⟨#[98]⟩, .string ⟨#[115, 120]⟩, .string ⟨#[115]⟩, .string ⟨#[99, 113, 112]⟩, .string ⟨#[104, 103, 99, 113, 112, 100, 120]⟩, .string ⟨#[104, 103, 99, 113, 112, 100]⟩, .string ⟨#[99, 113, 112, 100]⟩, .string ⟨#[98, 115]⟩] 9)) := M1.out.alloc _ |>.alloc _
    have TT : Tab ((w1.alloc (.cells #[.int .i64 kd, .int .u64 1, .int .u64 0, .int .i64 0, .int .i64 0, .int .u64 0, .int .u64 0, .int .u64 0, .int .i64 0, .slice none 0 0, .slice none 0 0] 32)).alloc (.cells #[.string ⟨#[]⟩, .string ⟨#[104, 103, 99, 113, 120]⟩, .string ⟨#[104, 103, 99, 113, 112, 100]⟩, .string ⟨#[104, 103, 99, 113, 112, 120]⟩, .string ⟨#[104, 103, 112]⟩, .string ⟨#[104, 103, 112]⟩, .string ⟨#[104, 103, 118]⟩, .string ⟨#[98, 115]⟩, .string ⟨#[98, 115, 120]⟩, .string ⟨#[98, 115, 120]⟩, .string ⟨#[98, 115]⟩, .string ⟨#[98]⟩, .string ⟨#[115, 120]⟩, .string ⟨#[115]⟩, .string ⟨#[99, 113, 112]⟩, .string ⟨#[104, 103, 99, 113, 112, 100, 120]⟩, .string ⟨#[104, 103, 99, 113, 112, 100]⟩, .string ⟨#[99, 113, 112, 100]⟩, .string ⟨#[98, 115]⟩] 9)) := HT1.out.mods ((Mods.refl Nil _).alloc _ |>.alloc _) (fun h => h)
    obtain ⟨W2, hW2⟩ : ∃ W2, ((w1.alloc (.cells #[.int .i64 kd, .int .u64 1, .int .u64 0, .int .i64 0, .int .i64 0, .int .u64 0, .int .u64 0, .int .u64 0, .int .i64 0, .slice none 0 0, .slice none 0 0] 32)).alloc (.cells #[.string ⟨#[]⟩, .string ⟨#[104, 103, 99, 113, 120]⟩, .string ⟨#[104, 103, 99, 113, 112, 100]⟩, .string ⟨#[104, 103, 99, 113, 112, 120]⟩, .string ⟨#[104, 103, 112]⟩, .string ⟨#[104, 103, 112]⟩, .string ⟨#[104, 103, 118]⟩, .string ⟨#[98, 115]⟩, .string ⟨#[98, 115, 120]⟩, .string ⟨#[98, 115, 120]⟩, .string ⟨#[98, 115]⟩, .string ⟨#[98]⟩, .string ⟨#[115, 120]⟩, .string ⟨#[115]⟩, .string ⟨#[99, 113, 112]⟩, .string ⟨#[104, 103, 99, 113, 112, 100, 120]⟩, .string ⟨#[104, 103, 99, 113, 112, 100]⟩, .string ⟨#[99, 113, 112, 100]⟩, .string ⟨#[98, 115]⟩] 9)) = W2 := ⟨_, rfl⟩
    rw [hW2] at BB MM TT ⊢
    have HBB := Lib.hid BB
    have HMM := Lib.hid MM
    have HTW := Lib.hid TT
    clear hW2 BB MM TT
    go_loopw [10, 11] (fun s i wr => i = .int .i64 0 ∧ s = .bool false ∧ Mods Nil W2 wr) (fun _ _ _ => 0)
    case atStart => exact ⟨rfl, rfl, Mods.refl _ _⟩
    case round =>
      obtain ⟨rfl, rfl, hmo⟩ := hrel
      have HMO := Lib.hid (HMM.out.trans hmo)
      obtain ⟨d0, d1, d2, d3, d4, d5, d6, d7, d8, d9, d10⟩ := (HBB.out.mods hmo (fun h => h)).mc
      dsimp only [List.length_nil, List.length_cons] at d0 d1 d2 d3 d4 d5 d6 d7 d8 d9 d10
      go_wp2_with (go_at_call 17; refine (check_any (m := { kind := kd, ballot := 1 }) (L := {}) HOK.out (HTW.out.mods hmo (fun h => h))).mono ?_; rintro e w3 ⟨rfl, m3⟩; rw [HCK.out]; have M3 := Lib.hid (HMO.out.trans m3); clear m3)
      go_ret
      exact ⟨rfl, M3.out⟩

set_option maxHeartbeats 8000000 in
theorem msgKinds_hi_0 (w : World) (hT : Tab w) (kd : Int) (hkd : -9223372036854775808 ≤ kd ∧ kd ≤ 9223372036854775807) (d : Nat) (hd : d < 256) (hdk : d % 10 = 0) (h1 : 18 < kd) :
    Calls Tryd.prog 6 #[.int .i64 kd, .int .u8 d] w fun e w' => e = .returned (.bool true) ∧ Mods Nil w w' := by
    have HT := Lib.hid hT
    have hk : isK kd = false := by simp [isK]; omega
    have h2 : 1 ≤ kd := by omega
    clear hT
    have hok : PM.ok { kind := kd, ballot := 1 } := by constructor <;> simp <;> omega
    have HOK := Lib.hid hok
    have hmod : (d : Int) % 10 = 0 := by omega
    have hmod2 : (d : Int).tmod 10 = 0 := by rw [Int.tmod_eq_emod_of_nonneg (by omega)]; omega
    have HCK : Hid (chk { kind := kd, ballot := 1 } = 1) := chk_nokind hk
    clear hok hk
    go_enter Tryd.func6, Tryd.ntmps6
    go_wp2_with (go_at_call 9; refine (awake4_any _ HT.out).mono ?_; rintro e w1 ⟨rfl, m1⟩; have M1 := Lib.hid m1; have HT1 := Lib.hid (HT.out.mods m1 (fun h => h)); clear m1)
    have BB : Blk ((w1.alloc (.cells #[.int .i64 kd, .int .u64 1, .int .u64 0, .int .i64 0, .int .i64 0, .int .u64 0, .int .u64 0, .int .u64 0, .int .i64 0, .slice none 0 0, .slice none 0 0] 32)).alloc (.cells #[.string ⟨#[]⟩, .string ⟨#[104, 103, 99, 113, 120]⟩, .string ⟨#[104, 103, 99, 113, 112, 100]⟩, .string ⟨#[104, 103, 99, 113, 112, 120]⟩, .string ⟨#[104, 103, 112]⟩, .string ⟨#[104, 103, 112]⟩, .string ⟨#[104, 103, 118]⟩, .string ⟨#[98, 115]⟩, .string ⟨#[98, 115, 120]⟩, .string ⟨#[98, 115, 120]⟩, .string ⟨#[98, 115]⟩, .string ⟨#[98]⟩, .string ⟨#[115, 120]⟩, .string ⟨#[115]⟩, .string ⟨#[99, 113, 112]⟩, .string ⟨#[104, 103, 99, 113, 112, 100, 120]⟩, .string ⟨#[104, 103, 99, 113, 112, 100]⟩, .string ⟨#[99, 113, 112, 100]⟩, .string ⟨#[98, 115]⟩] 9)) w1.heap.size 32 (MC { kind := kd, ballot := 1 } {}) := by exact (Blk.new w1 32 (MC { kind := kd, ballot := 1 } {})).alloc _
    have MM : Mods Nil w ((w1.alloc (.cells #[.int .i64 kd, .int .u64 1, .int .u64 0, .int .i64 0, .int .i64 0, .int .u64 0, .int .u64 0, .int .u64 0, .int .i64 0, .slice none 0 0, .slice none 0 0] 32)).alloc (.cells #[.string ⟨#[]⟩, .string ⟨#[104, 103, 99, 113, 120]⟩, .string ⟨#[104, 103, 99, 113, 112, 100]⟩, .string ⟨#[104, 103, 99, 113, 112, 120]⟩, .string ⟨#[104, 103, 112]⟩, .string ⟨#[104, 103, 112]⟩, .string ⟨#[104, 103, 118]⟩, .string ⟨#[98, 115]⟩, .string ⟨#[98, 115, 120]⟩, .string ⟨#[98, 115, 120]⟩, .string ⟨#[98, 115]⟩, .string ⟨#[98]⟩, .string ⟨#[115, 120]⟩, .string ⟨#[115]⟩, .string ⟨#[99, 113, 112]⟩, .string ⟨#[104, 103, 99, 113, 112, 100, 120]⟩, .string ⟨#[104, 103, 99, 113, 112, 100]⟩, .string ⟨#[99, 113, 112, 100]⟩, .string ⟨#[98, 115]⟩] 9)) := M1.out.alloc _ |>.alloc _
    have TT : Tab ((w1.alloc (.cells #[.int .i64 kd, .int .u64 1, .int .u64 0, .int .i64 0, .int .i64 0, .int .u64 0, .int .u64 0, .int .u64 0, .int .i64 0, .slice none 0 0, .slice none 0 0] 32)).alloc (.cells #[.string ⟨#[]⟩, .string ⟨#[104, 103, 99, 113, 120]⟩, .string ⟨#[104, 103, 99, 113, 112, 100]⟩, .string ⟨#[104, 103, 99, 113, 112, 120]⟩, .string ⟨#[104, 103, 112]⟩, .string ⟨#[104, 103, 112]⟩, .string ⟨#[104, 103, 118]⟩, .string ⟨#[98, 115]⟩, .string ⟨#[98, 115, 120]⟩, .string ⟨#[98, 115, 120]⟩, .string ⟨#[98, 115]⟩, .string ⟨#[98]⟩, .string ⟨#[115, 120]⟩, .string ⟨#[115]⟩, .string ⟨#[99, 113, 112]⟩, .string ⟨#[104, 103, 99, 113, 112, 100, 120]⟩, .string ⟨#[104, 103, 99, 113, 112, 100]⟩, .string ⟨#[99, 113, 112, 100]⟩, .string ⟨#[98, 115]⟩] 9)) := HT1.out.mods ((Mods.refl Nil _).alloc _ |>.alloc _) (fun h => h)
    obtain ⟨W2, hW2⟩ : ∃ W2, ((w1.alloc (.cells #[.int .i64 kd, .int .u64 1, .int .u64 0, .int .i64 0, .int .i64 0, .int .u64 0, .int .u64 0, .int .u64 0, .int .i64 0, .slice none 0 0, .slice none 0 0] 32)).alloc (.cells #[.string ⟨#[]⟩, .string ⟨#[104, 103, 99, 113, 120]⟩, .string ⟨#[104, 103, 99, 113, 112, 100]⟩, .string ⟨#[104, 103, 99, 113, 112, 120]⟩, .string ⟨#[104, 103, 112]⟩, .string ⟨#[104, 103, 112]⟩, .string ⟨#[104, 103, 118]⟩, .string ⟨#[98, 115]⟩, .string ⟨#[98, 115, 120]⟩, .string ⟨#[98, 115, 120]⟩, .string ⟨#[98, 115]⟩, .string ⟨#[98]⟩, .string ⟨#[115, 120]⟩, .string ⟨#[115]⟩, .string ⟨#[99, 113, 112]⟩, .string ⟨#[104, 103, 99, 113, 112, 100, 120]⟩, .string ⟨#[104, 103, 99, 113, 112, 100]⟩, .string ⟨#[99, 113, 112, 100]⟩, .string ⟨#[98, 115]⟩] 9)) = W2 := ⟨_, rfl⟩
    rw [hW2] at BB MM TT ⊢
    have HBB := Lib.hid BB
    have HMM := Lib.hid MM
    have HTW := Lib.hid TT
    clear hW2 BB MM TT
    go_loopw [10, 11] (fun s i wr => i = .int .i64 0 ∧ s = .bool false ∧ Mods Nil W2 wr) (fun _ _ _ => 0)
    case atStart => exact ⟨rfl, rfl, Mods.refl _ _⟩
    case round =>
      obtain ⟨rfl, rfl, hmo⟩ := hrel
      have HMO := Lib.hid (HMM.out.trans hmo)
      obtain ⟨d0, d1, d2, d3, d4, d5, d6, d7, d8, d9, d10⟩ := (HBB.out.mods hmo (fun h => h)).mc
      dsimp only [List.length_nil, List.length_cons] at d0 d1 d2 d3 d4 d5 d6 d7 d8 d9 d10
      go_wp2_with (go_at_call 17; refine (check_any (m := { kind := kd, ballot := 1 }) (L := {}) HOK.out (HTW.out.mods hmo (fun h => h))).mono ?_; rintro e w3 ⟨rfl, m3⟩; rw [HCK.out]; have M3 := Lib.hid (HMO.out.trans m3); clear m3)
      go_ret
      exact ⟨rfl, M3.out⟩

set_option maxHeartbeats 8000000 in
theorem msgKinds_lo_1 (w : World) (hT : Tab w) (kd : Int) (hkd : -9223372036854775808 ≤ kd ∧ kd ≤ 9223372036854775807) (d : Nat) (hd : d < 256) (hdk : d % 10 = 1) (h1 : kd < 1) :
    Calls Tryd.prog 6 #[.int .i64 kd, .int .u8 d] w fun e w' => e = .returned (.bool true) ∧ Mods Nil w w' := by
    have HT := Lib.hid hT
    have hk : isK kd = false := by simp [isK]; omega

    clear hT
    have hok : PM.ok { kind := kd, slot := 1 } := by constructor <;> simp <;> omega
    have HOK := Lib.hid hok
    have hmod : (d : Int) % 10 = 1 := by omega
    have hmod2 : (d : Int).tmod 10 = 1 := by rw [Int.tmod_eq_emod_of_nonneg (by omega)]; omega
    have HCK : Hid (chk { kind := kd, slot := 1 } = 1) := chk_nokind hk
    clear hok hk
    go_enter Tryd.func6, Tryd.ntmps6
    go_wp2_with (go_at_call 9; refine (awake4_any _ HT.out).mono ?_; rintro e w1 ⟨rfl, m1⟩; have M1 := Lib.hid m1; have HT1 := Lib.hid (HT.out.mods m1 (fun h => h)); clear m1)
    have BB : Blk ((w1.alloc (.cells #[.int .i64 kd, .int .u64 0, .int .u64 1, .int .i64 0, .int .i64 0, .int .u64 0, .int .u64 0, .int .u64 0, .int .i64 0, .slice none 0 0, .slice none 0 0] 32)).alloc (.cells #[.string ⟨#[]⟩, .string ⟨#[104, 103, 99, 113, 120]⟩, .string ⟨#[104, 103, 99, 113, 112, 100]⟩, .string ⟨#[104, 103, 99, 113, 112, 120]⟩, .string ⟨#[104, 103, 112]⟩, .string ⟨#[104, 103, 112]⟩, .string ⟨#[104, 103, 118]⟩, .string ⟨#[98, 115]⟩, .string ⟨#[98, 115, 120]⟩, .string ⟨#[98, 115, 120]⟩, .string ⟨#[98, 115]⟩, .string ⟨#[98]⟩, .string ⟨#[115, 120]⟩, .string ⟨#[115]⟩, .string ⟨#[99, 113, 112]⟩, .string ⟨#[104, 103, 99, 113, 112, 100, 120]⟩, .string ⟨#[104, 103, 99, 113, 112, 100]⟩, .string ⟨#[99, 113, 112, 100]⟩, .string ⟨#[98, 115]⟩] 9)) w1.heap.size 32 (MC { kind := kd, slot := 1 } {}) := by exact (Blk.new w1 32 (MC { kind := kd, slot := 1 } {})).alloc _
    have MM : Mods Nil w ((w1.alloc (.cells #[.int .i64 kd, .int .u64 0, .int .u64 1, .int .i64 0, .int .i64 0, .int .u64 0, .int .u64 0, .int .u64 0, .int .i64 0, .slice none 0 0, .slice none 0 0] 32)).alloc (.cells #[.string ⟨#[]⟩, .string ⟨#[104, 103, 99, 113, 120]⟩, .string ⟨#[104, 103, 99, 113, 112, 100]⟩, .string ⟨#[104, 103, 99, 113, 112, 120]⟩, .string ⟨#[104, 103, 112]⟩, .string ⟨#[104, 103, 112]⟩, .string ⟨#[104, 103, 118]⟩, .string ⟨#[98, 115]⟩, .string ⟨#[98, 115, 120]⟩, .string ⟨#[98, 115, 120]⟩, .string ⟨#[98, 115]⟩, .string ⟨#[98]⟩, .string ⟨#[115, 120]⟩, .string ⟨#[115]⟩, .string ⟨#[99, 113, 112]⟩, .string ⟨#[104, 103, 99, 113, 112, 100, 120]⟩, .string ⟨#[104, 103, 99, 113, 112, 100]⟩, .string ⟨#[99, 113, 112, 100]⟩, .string ⟨#[98, 115]⟩] 9)) := M1.out.alloc _ |>.alloc _
    have TT : Tab ((w1.alloc (.cells #[.int .i64 kd, .int .u64 0, .int .u64 1, .int .i64 0, .int .i64 0, .int .u64 0, .int .u64 0, .int .u64 0, .int .i64 0, .slice none 0 0, .slice none 0 0] 32)).alloc (.cells #[.string ⟨#[]⟩, .string ⟨#[104, 103, 99, 113, 120]⟩, .string ⟨#[104, 103, 99, 113, 112, 100]⟩, .string ⟨#[104, 103, 99, 113, 112, 120]⟩, .string ⟨#[104, 103, 112]⟩, .string ⟨#[104, 103, 112]⟩, .string ⟨#[104, 103, 118]⟩, .string ⟨#[98, 115]⟩, .string ⟨#[98, 115, 120]⟩, .string ⟨#[98, 115, 120]⟩, .string ⟨#[98, 115]⟩, .string ⟨#[98]⟩, .string ⟨#[115, 120]⟩, .string ⟨#[115]⟩, .string ⟨#[99, 113, 112]⟩, .string ⟨#[104, 103, 99, 113, 112, 100, 120]⟩, .string ⟨#[104, 103, 99, 113, 112, 100]⟩, .string ⟨#[99, 113, 112, 100]⟩, .string ⟨#[98, 115]⟩] 9)) := HT1.out.mods ((Mods.refl Nil _).alloc _ |>.alloc _) (fun h => h)
    obtain ⟨W2, hW2⟩ : ∃ W2, ((w1.alloc (.cells #[.int .i64 kd, .int .u64 0, .int .u64 1, .int .i64 0, .int .i64 0, .int .u64 0, .int .u64 0, .int .u64 0, .int .i64 0, .slice none 0 0, .slice none 0 0] 32)).alloc (.cells #[.string ⟨#[]⟩, .string ⟨#[104, 103, 99, 113, 120]⟩, .string ⟨#[104, 103, 99, 113, 112, 100]⟩, .string ⟨#[104, 103, 99, 113, 112, 120]⟩, .string ⟨#[104, 103, 112]⟩, .string ⟨#[104, 103, 112]⟩, .string ⟨#[104, 103, 118]⟩, .string ⟨#[98, 115]⟩, .string ⟨#[98, 115, 120]⟩, .string ⟨#[98, 115, 120]⟩, .string ⟨#[98, 115]⟩, .string ⟨#[98]⟩, .string ⟨#[115, 120]⟩, .string ⟨#[115]⟩, .string ⟨#[99, 113, 112]⟩, .string ⟨#[104, 103, 99, 113, 112, 100, 120]⟩, .string ⟨#[104, 103, 99, 113, 112, 100]⟩, .string ⟨#[99, 113, 112, 100]⟩, .string ⟨#[98, 115]⟩] 9)) = W2 := ⟨_, rfl⟩
    rw [hW2] at BB MM TT ⊢
    have HBB := Lib.hid BB
    have HMM := Lib.hid MM
    have HTW := Lib.hid TT
    clear hW2 BB MM TT
    go_loopw [10, 11] (fun s i wr => i = .int .i64 0 ∧ s = .bool false ∧ Mods Nil W2 wr) (fun _ _ _ => 0)
    case atStart => exact ⟨rfl, rfl, Mods.refl _ _⟩
    case round =>
      obtain ⟨rfl, rfl, hmo⟩ := hrel
      have HMO := Lib.hid (HMM.out.trans hmo)
      obtain ⟨d0, d1, d2, d3, d4, d5, d6, d7, d8, d9, d10⟩ := (HBB.out.mods hmo (fun h => h)).mc
      dsimp only [List.length_nil, List.length_cons] at d0 d1 d2 d3 d4 d5 d6 d7 d8 d9 d10
      go_wp2_with (go_at_call 17; refine (check_any (m := { kind := kd, slot := 1 }) (L := {}) HOK.out (HTW.out.mods hmo (fun h => h))).mono ?_; rintro e w3 ⟨rfl, m3⟩; rw [HCK.out]; have M3 := Lib.hid (HMO.out.trans m3); clear m3)
      go_ret
      exact ⟨rfl, M3.out⟩

set_option maxHeartbeats 8000000 in
theorem msgKinds_hi_1 (w : World) (hT : Tab w) (kd : Int) (hkd : -9223372036854775808 ≤ kd ∧ kd ≤ 9223372036854775807) (d : Nat) (hd : d < 256) (hdk : d % 10 = 1) (h1 : 18 < kd) :
    Calls Tryd.prog 6 #[.int .i64 kd, .int .u8 d] w fun e w' => e = .returned (.bool true) ∧ Mods Nil w w' := by
    have HT := Lib.hid hT
    have hk : isK kd = false := by simp [isK]; omega
    have h2 : 1 ≤ kd := by omega
    clear hT
    have hok : PM.ok { kind := kd, slot := 1 } := by constructor <;> simp <;> omega
    have HOK := Lib.hid hok
    have hmod : (d : Int) % 10 = 1 := by omega
    have hmod2 : (d : Int).tmod 10 = 1 := by rw [Int.tmod_eq_emod_of_nonneg (by omega)]; omega
    have HCK : Hid (chk { kind := kd, slot := 1 } = 1) := chk_nokind hk
    clear hok hk
    go_enter Tryd.func6, Tryd.ntmps6
    go_wp2_with (go_at_call 9; refine (awake4_any _ HT.out).mono ?_; rintro e w1 ⟨rfl, m1⟩; have M1 := Lib.hid m1; have HT1 := Lib.hid (HT.out.mods m1 (fun h => h)); clear m1)
    have BB : Blk ((w1.alloc (.cells #[.int .i64 kd, .int .u64 0, .int .u64 1, .int .i64 0, .int .i64 0, .int .u64 0, .int .u64 0, .int .u64 0, .int .i64 0, .slice none 0 0, .slice none 0 0] 32)).alloc (.cells #[.string ⟨#[]⟩, .string ⟨#[104, 103, 99, 113, 120]⟩, .string ⟨#[104, 103, 99, 113, 112, 100]⟩, .string ⟨#[104, 103, 99, 113, 112, 120]⟩, .string ⟨#[104, 103, 112]⟩, .string ⟨#[104, 103, 112]⟩, .string ⟨#[104, 103, 118]⟩, .string ⟨#[98, 115]⟩, .string ⟨#[98, 115, 120]⟩, .string ⟨#[98, 115, 120]⟩, .string ⟨#[98, 115]⟩, .string ⟨#[98]⟩, .string ⟨#[115, 120]⟩, .string ⟨#[115]⟩, .string ⟨#[99, 113, 112]⟩, .string ⟨#[104, 103, 99, 113, 112, 100, 120]⟩, .string ⟨#[104, 103, 99, 113, 112, 100]⟩, .string ⟨#[99, 113, 112, 100]⟩, .string ⟨#[98, 115]⟩] 9)) w1.heap.size 32 (MC { kind := kd, slot := 1 } {}) := by exact (Blk.new w1 32 (MC { kind := kd, slot := 1 } {})).alloc _
    have MM : Mods Nil w ((w1.alloc (.cells #[.int .i64 kd, .int .u64 0, .int .u64 1, .int .i64 0, .int .i64 0, .int .u64 0, .int .u64 0, .int .u64 0, .int .i64 0, .slice none 0 0, .slice none 0 0] 32)).alloc (.cells #[.string ⟨#[]⟩, .string ⟨#[104, 103, 99, 113, 120]⟩, .string ⟨#[104, 103, 99, 113, 112, 100]⟩, .string ⟨#[104, 103, 99, 113, 112, 120]⟩, .string ⟨#[104, 103, 112]⟩, .string ⟨#[104, 103, 112]⟩, .string ⟨#[104, 103, 118]⟩, .string ⟨#[98, 115]⟩, .string ⟨#[98, 115, 120]⟩, .string ⟨#[98, 115, 120]⟩, .string ⟨#[98, 115]⟩, .string ⟨#[98]⟩, .string ⟨#[115, 120]⟩, .string ⟨#[115]⟩, .string ⟨#[99, 113, 112]⟩, .string ⟨#[104, 103, 99, 113, 112, 100, 120]⟩, .string ⟨#[104, 103, 99, 113, 112, 100]⟩, .string ⟨#[99, 113, 112, 100]⟩, .string ⟨#[98, 115]⟩] 9)) := M1.out.alloc _ |>.alloc _
    have TT : Tab ((w1.alloc (.cells #[.int .i64 kd, .int .u64 0, .int .u64 1, .int .i64 0, .int .i64 0, .int .u64 0, .int .u64 0, .int .u64 0, .int .i64 0, .slice none 0 0, .slice none 0 0] 32)).alloc (.cells #[.string ⟨#[]⟩, .string ⟨#[104, 103, 99, 113, 120]⟩, .string ⟨#[104, 103, 99, 113, 112, 100]⟩, .string ⟨#[104, 103, 99, 113, 112, 120]⟩, .string ⟨#[104, 103, 112]⟩, .string ⟨#[104, 103, 112]⟩, .string ⟨#[104, 103, 118]⟩, .string ⟨#[98, 115]⟩, .string ⟨#[98, 115, 120]⟩, .string ⟨#[98, 115, 120]⟩, .string ⟨#[98, 115]⟩, .string ⟨#[98]⟩, .string ⟨#[115, 120]⟩, .string ⟨#[115]⟩, .string ⟨#[99, 113, 112]⟩, .string ⟨#[104, 103, 99, 113, 112, 100, 120]⟩, .string ⟨#[104, 103, 99, 113, 112, 100]⟩, .string ⟨#[99, 113, 112, 100]⟩, .string ⟨#[98, 115]⟩] 9)) := HT1.out.mods ((Mods.refl Nil _).alloc _ |>.alloc _) (fun h => h)
    obtain ⟨W2, hW2⟩ : ∃ W2, ((w1.alloc (.cells #[.int .i64 kd, .int .u64 0, .int .u64 1, .int .i64 0, .int .i64 0, .int .u64 0, .int .u64 0, .int .u64 0, .int .i64 0, .slice none 0 0, .slice none 0 0] 32)).alloc (.cells #[.string ⟨#[]⟩, .string ⟨#[104, 103, 99, 113, 120]⟩, .string ⟨#[104, 103, 99, 113, 112, 100]⟩, .string ⟨#[104, 103, 99, 113, 112, 120]⟩, .string ⟨#[104, 103, 112]⟩, .string ⟨#[104, 103, 112]⟩, .string ⟨#[104, 103, 118]⟩, .string ⟨#[98, 115]⟩, .string ⟨#[98, 115, 120]⟩, .string ⟨#[98, 115, 120]⟩, .string ⟨#[98, 115]⟩, .string ⟨#[98]⟩, .string ⟨#[115, 120]⟩, .string ⟨#[115]⟩, .string ⟨#[99, 113, 112]⟩, .string ⟨#[104, 103, 99, 113, 112, 100, 120]⟩, .string ⟨#[104, 103, 99, 113, 112, 100]⟩, .string ⟨#[99, 113, 112, 100]⟩, .string ⟨#[98, 115]⟩] 9)) = W2 := ⟨_, rfl⟩
    rw [hW2] at BB MM TT ⊢
    have HBB := Lib.hid BB
    have HMM := Lib.hid MM
    have HTW := Lib.hid TT
    clear hW2 BB MM TT
    go_loopw [10, 11] (fun s i wr => i = .int .i64 0 ∧ s = .bool false ∧ Mods Nil W2 wr) (fun _ _ _ => 0)
    case atStart => exact ⟨rfl, rfl, Mods.refl _ _⟩
    case round =>
      obtain ⟨rfl, rfl, hmo⟩ := hrel
      have HMO := Lib.hid (HMM.out.trans hmo)
      obtain ⟨d0, d1, d2, d3, d4, d5, d6, d7, d8, d9, d10⟩ := (HBB.out.mods hmo (fun h => h)).mc
      dsimp only [List.length_nil, List.length_cons] at d0 d1 d2 d3 d4 d5 d6 d7 d8 d9 d10
      go_wp2_with (go_at_call 17; refine (check_any (m := { kind := kd, slot := 1 }) (L := {}) HOK.out (HTW.out.mods hmo (fun h => h))).mono ?_; rintro e w3 ⟨rfl, m3⟩; rw [HCK.out]; have M3 := Lib.hid (HMO.out.trans m3); clear m3)
      go_ret
      exact ⟨rfl, M3.out⟩

set_option maxHeartbeats 8000000 in
theorem msgKinds_lo_2 (w : World) (hT : Tab w) (kd : Int) (hkd : -9223372036854775808 ≤ kd ∧ kd ≤ 9223372036854775807) (d : Nat) (hd : d < 256) (hdk : d % 10 = 2) (h1 : kd < 1) :
    Calls Tryd.prog 6 #[.int .i64 kd, .int .u8 d] w fun e w' => e = .returned (.bool true) ∧ Mods Nil w w' := by
    have HT := Lib.hid hT
    have hk : isK kd = false := by simp [isK]; omega

    clear hT
    have hok : PM.ok { kind := kd, shard := 1 } := by constructor <;> simp <;> omega
    have HOK := Lib.hid hok
    have hmod : (d : Int) % 10 = 2 := by omega
    have hmod2 : (d : Int).tmod 10 = 2 := by rw [Int.tmod_eq_emod_of_nonneg (by omega)]; omega
    have HCK : Hid (chk { kind := kd, shard := 1 } = 1) := chk_nokind hk
    clear hok hk
    go_enter Tryd.func6, Tryd.ntmps6
    go_wp2_with (go_at_call 9; refine (awake4_any _ HT.out).mono ?_; rintro e w1 ⟨rfl, m1⟩; have M1 := Lib.hid m1; have HT1 := Lib.hid (HT.out.mods m1 (fun h => h)); clear m1)
    have BB : Blk ((w1.alloc (.cells #[.int .i64 kd, .int .u64 0, .int .u64 0, .int .i64 1, .int .i64 0, .int .u64 0, .int .u64 0, .int .u64 0, .int .i64 0, .slice none 0 0, .slice none 0 0] 32)).alloc (.cells #[.string ⟨#[]⟩, .string ⟨#[104, 103, 99, 113, 120]⟩, .string ⟨#[104, 103, 99, 113, 112, 100]⟩, .string ⟨#[104, 103, 99, 113, 112, 120]⟩, .string ⟨#[104, 103, 112]⟩, .string ⟨#[104, 103, 112]⟩, .string ⟨#[104, 103, 118]⟩, .string ⟨#[98, 115]⟩, .string ⟨#[98, 115, 120]⟩, .string ⟨#[98, 115, 120]⟩, .string ⟨#[98, 115]⟩, .string ⟨#[98]⟩, .string ⟨#[115, 120]⟩, .string ⟨#[115]⟩, .string ⟨#[99, 113, 112]⟩, .string ⟨#[104, 103, 99, 113, 112, 100, 120]⟩, .string ⟨#[104, 103, 99, 113, 112, 100]⟩, .string ⟨#[99, 113, 112, 100]⟩, .string ⟨#[98, 115]⟩] 9)) w1.heap.size 32 (MC { kind := kd, shard := 1 } {}) := by exact (Blk.new w1 32 (MC { kind := kd, shard := 1 } {})).alloc _
    have MM : Mods Nil w ((w1.alloc (.cells #[.int .i64 kd, .int .u64 0, .int .u64 0, .int .i64 1, .int .i64 0, .int .u64 0, .int .u64 0, .int .u64 0, .int .i64 0, .slice none 0 0, .slice none 0 0] 32)).alloc (.cells #[.string ⟨#[]⟩, .string ⟨#[104, 103, 99, 113, 120]⟩, .string ⟨#[104, 103, 99, 113, 112, 100]⟩, .string ⟨#[104, 103, 99, 113, 112, 120]⟩, .string ⟨#[104, 103, 112]⟩, .string ⟨#[104, 103, 112]⟩, .string ⟨#[104, 103, 118]⟩, .string ⟨#[98, 115]⟩, .string ⟨#[98, 115, 120]⟩, .string ⟨#[98, 115, 120]⟩, .string ⟨#[98, 115]⟩, .string ⟨#[98]⟩, .string ⟨#[115, 120]⟩, .string ⟨#[115]⟩, .string ⟨#[99, 113, 112]⟩, .string ⟨#[104, 103, 99, 113, 112, 100, 120]⟩, .string ⟨#[104, 103, 99, 113, 112, 100]⟩, .string ⟨#[99, 113, 112, 100]⟩, .string ⟨#[98, 115]⟩] 9)) := M1.out.alloc _ |>.alloc _
    have TT : Tab ((w1.alloc (.cells #[.int .i64 kd, .int .u64 0, .int .u64 0, .int .i64 1, .int .i64 0, .int .u64 0, .int .u64 0, .int .u64 0, .int .i64 0, .slice none 0 0, .slice none 0 0] 32)).alloc (.cells #[.string ⟨#[]⟩, .string ⟨#[104, 103, 99, 113, 120]⟩, .string ⟨#[104, 103, 99, 113, 112, 100]⟩, .string ⟨#[104, 103, 99, 113, 112, 120]⟩, .string ⟨#[104, 103, 112]⟩, .string ⟨#[104, 103, 112]⟩, .string ⟨#[104, 103, 118]⟩, .string ⟨#[98, 115]⟩, .string ⟨#[98, 115, 120]⟩, .string ⟨#[98, 115, 120]⟩, .string ⟨#[98, 115]⟩, .string ⟨#[98]⟩, .string ⟨#[115, 120]⟩, .string ⟨#[115]⟩, .string ⟨#[99, 113, 112]⟩, .string ⟨#[104, 103, 99, 113, 112, 100, 120]⟩, .string ⟨#[104, 103, 99, 113, 112, 100]⟩, .string ⟨#[99, 113, 112, 100]⟩, .string ⟨#[98, 115]⟩] 9)) := HT1.out.mods ((Mods.refl Nil _).alloc _ |>.alloc _) (fun h => h)
    obtain ⟨W2, hW2⟩ : ∃ W2, ((w1.alloc (.cells #[.int .i64 kd, .int .u64 0, .int .u64 0, .int .i64 1, .int .i64 0, .int .u64 0, .int .u64 0, .int .u64 0, .int .i64 0, .slice none 0 0, .slice none 0 0] 32)).alloc (.cells #[.string ⟨#[]⟩, .string ⟨#[104, 103, 99, 113, 120]⟩, .string ⟨#[104, 103, 99, 113, 112, 100]⟩, .string ⟨#[104, 103, 99, 113, 112, 120]⟩, .string ⟨#[104, 103, 112]⟩, .string ⟨#[104, 103, 112]⟩, .string ⟨#[104, 103, 118]⟩, .string ⟨#[98, 115]⟩, .string ⟨#[98, 115, 120]⟩, .string ⟨#[98, 115, 120]⟩, .string ⟨#[98, 115]⟩, .string ⟨#[98]⟩, .string ⟨#[115, 120]⟩, .string ⟨#[115]⟩, .string ⟨#[99, 113, 112]⟩, .string ⟨#[104, 103, 99, 113, 112, 100, 120]⟩, .string ⟨#[104, 103, 99, 113, 112, 100]⟩, .string ⟨#[99, 113, 112, 100]⟩, .string ⟨#[98, 115]⟩] 9)) = W2 := ⟨_, rfl⟩
    rw [hW2] at BB MM TT ⊢
    have HBB := Lib.hid BB
    have HMM := Lib.hid MM
    have HTW := Lib.hid TT
    clear hW2 BB MM TT
    go_loopw [10, 11] (fun s i wr => i = .int .i64 0 ∧ s = .bool false ∧ Mods Nil W2 wr) (fun _ _ _ => 0)
    case atStart => exact ⟨rfl, rfl, Mods.refl _ _⟩
    case round =>
      obtain ⟨rfl, rfl, hmo⟩ := hrel
      have HMO := Lib.hid (HMM.out.trans hmo)
      obtain ⟨d0, d1, d2, d3, d4, d5, d6, d7, d8, d9, d10⟩ := (HBB.out.mods hmo (fun h => h)).mc
      dsimp only [List.length_nil, List.length_cons] at d0 d1 d2 d3 d4 d5 d6 d7 d8 d9 d10
      go_wp2_with (go_at_call 17; refine (check_any (m := { kind := kd, shard := 1 }) (L := {}) HOK.out (HTW.out.mods hmo (fun h => h))).mono ?_; rintro e w3 ⟨rfl, m3⟩; rw [HCK.out]; have M3 := Lib.hid (HMO.out.trans m3); clear m3)
      go_ret
      exact ⟨rfl, M3.out⟩

set_option maxHeartbeats 8000000 in
theorem msgKinds_hi_2 (w : World) (hT : Tab w) (kd : Int) (hkd : -9223372036854775808 ≤ kd ∧ kd ≤ 9223372036854775807) (d : Nat) (hd : d < 256) (hdk : d % 10 = 2) (h1 : 18 < kd) :
    Calls Tryd.prog 6 #[.int .i64 kd, .int .u8 d] w fun e w' => e = .returned (.bool true) ∧ Mods Nil w w' := by
    have HT := Lib.hid hT
    have hk : isK kd = false := by simp [isK]; omega
    have h2 : 1 ≤ kd := by omega
    clear hT
    have hok : PM.ok { kind := kd, shard := 1 } := by constructor <;> simp <;> omega
    have HOK := Lib.hid hok
    have hmod : (d : Int) % 10 = 2 := by omega
    have hmod2 : (d : Int).tmod 10 = 2 := by rw [Int.tmod_eq_emod_of_nonneg (by omega)]; omega
    have HCK : Hid (chk { kind := kd, shard := 1 } = 1) := chk_nokind hk
    clear hok hk
    go_enter Tryd.func6, Tryd.ntmps6
    go_wp2_with (go_at_call 9; refine (awake4_any _ HT.out).mono ?_; rintro e w1 ⟨rfl, m1⟩; have M1 := Lib.hid m1; have HT1 := Lib.hid (HT.out.mods m1 (fun h => h)); clear m1)
    have BB : Blk ((w1.alloc (.cells #[.int .i64 kd, .int .u64 0, .int .u64 0, .int .i64 1, .int .i64 0, .int .u64 0, .int .u64 0, .int .u64 0, .int .i64 0, .slice none 0 0, .slice none 0 0] 32)).alloc (.cells #[.string ⟨#[]⟩, .string ⟨#[104, 103, 99, 113, 120]⟩, .string ⟨#[104, 103, 99, 113, 112, 100]⟩, .string ⟨#[104, 103, 99, 113, 112, 120]⟩, .string ⟨#[104, 103, 112]⟩, .string ⟨#[104, 103, 112]⟩, .string ⟨#[104, 103, 118]⟩, .string ⟨#[98, 115]⟩, .string ⟨#[98, 115, 120]⟩, .string ⟨#[98, 115, 120]⟩, .string ⟨#[98, 115]⟩, .string ⟨#[98]⟩, .string ⟨#[115, 120]⟩, .string ⟨#[115]⟩, .string ⟨#[99, 113, 112]⟩, .string ⟨#[104, 103, 99, 113, 112, 100, 120]⟩, .string ⟨#[104, 103, 99, 113, 112, 100]⟩, .string ⟨#[99, 113, 112, 100]⟩, .string ⟨#[98, 115]⟩] 9)) w1.heap.size 32 (MC { kind := kd, shard := 1 } {}) := by exact (Blk.new w1 32 (MC { kind := kd, shard := 1 } {})).alloc _
    have MM : Mods Nil w ((w1.alloc (.cells #[.int .i64 kd, .int .u64 0, .int .u64 0, .int .i64 1, .int .i64 0, .int .u64 0, .int .u64 0, .int .u64 0, .int .i64 0, .slice none 0 0, .slice none 0 0] 32)).alloc (.cells #[.string ⟨#[]⟩, .string ⟨#[104, 103, 99, 113, 120]⟩, .string ⟨#[104, 103, 99, 113, 112, 100]⟩, .string ⟨#[104, 103, 99, 113, 112, 120]⟩, .string ⟨#[104, 103, 112]⟩, .string ⟨#[104, 103, 112]⟩, .string ⟨#[104, 103, 118]⟩, .string ⟨#[98, 115]⟩, .string ⟨#[98, 115, 120]⟩, .string ⟨#[98, 115, 120]⟩, .string ⟨#[98, 115]⟩, .string ⟨#[98]⟩, .string ⟨#[115, 120]⟩, .string ⟨#[115]⟩, .string ⟨#[99, 113, 112]⟩, .string ⟨#[104, 103, 99, 113, 112, 100, 120]⟩, .string ⟨#[104, 103, 99, 113, 112, 100]⟩, .string ⟨#[99, 113, 112, 100]⟩, .string ⟨#[98, 115]⟩] 9)) := M1.out.alloc _ |>.alloc _
    have TT : Tab ((w1.alloc (.cells #[.int .i64 kd, .int .u64 0, .int .u64 0, .int .i64 1, .int .i64 0, .int .u64 0, .int .u64 0, .int .u64 0, .int .i64 0, .slice none 0 0, .slice none 0 0] 32)).alloc (.cells #[.string ⟨#[]⟩, .string ⟨#[104, 103, 99, 113, 120]⟩, .string ⟨#[104, 103, 99, 113, 112, 100]⟩, .string ⟨#[104, 103, 99, 113, 112, 120]⟩, .string ⟨#[104, 103, 112]⟩, .string ⟨#[104, 103, 112]⟩, .string ⟨#[104, 103, 118]⟩, .string ⟨#[98, 115]⟩, .string ⟨#[98, 115, 120]⟩, .string ⟨#[98, 115, 120]⟩, .string ⟨#[98, 115]⟩, .string ⟨#[98]⟩, .string ⟨#[115, 120]⟩, .string ⟨#[115]⟩, .string ⟨#[99, 113, 112]⟩, .string ⟨#[104, 103, 99, 113, 112, 100, 120]⟩, .string ⟨#[104, 103, 99, 113, 112, 100]⟩, .string ⟨#[99, 113, 112, 100]⟩, .string ⟨#[98, 115]⟩] 9)) := HT1.out.mods ((Mods.refl Nil _).alloc _ |>.alloc _) (fun h => h)
    obtain ⟨W2, hW2⟩ : ∃ W2, ((w1.alloc (.cells #[.int .i64 kd, .int .u64 0, .int .u64 0, .int .i64 1, .int .i64 0, .int .u64 0, .int .u64 0, .int .u64 0, .int .i64 0, .slice none 0 0, .slice none 0 0] 32)).alloc (.cells #[.string ⟨#[]⟩, .string ⟨#[104, 103, 99, 113, 120]⟩, .string ⟨#[104, 103, 99, 113, 112, 100]⟩, .string ⟨#[104, 103, 99, 113, 112, 120]⟩, .string ⟨#[104, 103, 112]⟩, .string ⟨#[104, 103, 112]⟩, .string ⟨#[104, 103, 118]⟩, .string ⟨#[98, 115]⟩, .string ⟨#[98, 115, 120]⟩, .string ⟨#[98, 115, 120]⟩, .string ⟨#[98, 115]⟩, .string ⟨#[98]⟩, .string ⟨#[115, 120]⟩, .string ⟨#[115]⟩, .string ⟨#[99, 113, 112]⟩, .string ⟨#[104, 103, 99, 113, 112, 100, 120]⟩, .string ⟨#[104, 103, 99, 113, 112, 100]⟩, .string ⟨#[99, 113, 112, 100]⟩, .string ⟨#[98, 115]⟩] 9)) = W2 := ⟨_, rfl⟩
    rw [hW2] at BB MM TT ⊢
    have HBB := Lib.hid BB
    have HMM := Lib.hid MM
    have HTW := Lib.hid TT
    clear hW2 BB MM TT
    go_loopw [10, 11] (fun s i wr => i = .int .i64 0 ∧ s = .bool false ∧ Mods Nil W2 wr) (fun _ _ _ => 0)
    case atStart => exact ⟨rfl, rfl, Mods.refl _ _⟩
    case round =>
      obtain ⟨rfl, rfl, hmo⟩ := hrel
      have HMO := Lib.hid (HMM.out.trans hmo)
      obtain ⟨d0, d1, d2, d3, d4, d5, d6, d7, d8, d9, d10⟩ := (HBB.out.mods hmo (fun h => h)).mc
      dsimp only [List.length_nil, List.length_cons] at d0 d1 d2 d3 d4 d5 d6 d7 d8 d9 d10
      go_wp2_with (go_at_call 17; refine (check_any (m := { kind := kd, shard := 1 }) (L := {}) HOK.out (HTW.out.mods hmo (fun h => h))).mono ?_; rintro e w3 ⟨rfl, m3⟩; rw [HCK.out]; have M3 := Lib.hid (HMO.out.trans m3); clear m3)
      go_ret
      exact ⟨rfl, M3.out⟩

set_option maxHeartbeats 8000000 in
theorem msgKinds_lo_3 (w : World) (hT : Tab w) (kd : Int) (hkd : -9223372036854775808 ≤ kd ∧ kd ≤ 9223372036854775807) (d : Nat) (hd : d < 256) (hdk : d % 10 = 3) (h1 : kd < 1) :
    Calls Tryd.prog 6 #[.int .i64 kd, .int .u8 d] w fun e w' => e = .returned (.bool true) ∧ Mods Nil w w' := by
    have HT := Lib.hid hT
    have hk : isK kd = false := by simp [isK]; omega

    clear hT
    have hok : PM.ok { kind := kd, seg := 1 } := by constructor <;> simp <;> omega
    have HOK := Lib.hid hok
    have hmod : (d : Int) % 10 = 3 := by omega
    have hmod2 : (d : Int).tmod 10 = 3 := by rw [Int.tmod_eq_emod_of_nonneg (by omega)]; omega
    have HCK : Hid (chk { kind := kd, seg := 1 } = 1) := chk_nokind hk
    clear hok hk
    go_enter Tryd.func6, Tryd.ntmps6
    go_wp2_with (go_at_call 9; refine (awake4_any _ HT.out).mono ?_; rintro e w1 ⟨rfl, m1⟩; have M1 := Lib.hid m1; have HT1 := Lib.hid (HT.out.mods m1 (fun h => h)); clear m1)
    have BB : Blk ((w1.alloc (.cells #[.int .i64 kd, .int .u64 0, .int .u64 0, .int .i64 0, .int .i64 1, .int .u64 0, .int .u64 0, .int .u64 0, .int .i64 0, .slice none 0 0, .slice none 0 0] 32)).alloc (.cells #[.string ⟨#[]⟩, .string ⟨#[104, 103, 99, 113, 120]⟩, .string ⟨#[104, 103, 99, 113, 112, 100]⟩, .string ⟨#[104, 103, 99, 113, 112, 120]⟩, .string ⟨#[104, 103, 112]⟩, .string ⟨#[104, 103, 112]⟩, .string ⟨#[104, 103, 118]⟩, .string ⟨#[98, 115]⟩, .string ⟨#[98, 115, 120]⟩, .string ⟨#[98, 115, 120]⟩, .string ⟨#[98, 115]⟩, .string ⟨#[98]⟩, .string ⟨#[115, 120]⟩, .string ⟨#[115]⟩, .string ⟨#[99, 113, 112]⟩, .string ⟨#[104, 103, 99, 113, 112, 100, 120]⟩, .string ⟨#[104, 103, 99, 113, 112, 100]⟩, .string ⟨#[99, 113, 112, 100]⟩, .string ⟨#[98, 115]⟩] 9)) w1.heap.size 32 (MC { kind := kd, seg := 1 } {}) := by exact (Blk.new w1 32 (MC { kind := kd, seg := 1 } {})).alloc _
    have MM : Mods Nil w ((w1.alloc (.cells #[.int .i64 kd, .int .u64 0, .int .u64 0, .int .i64 0, .int .i64 1, .int .u64 0, .int .u64 0, .int .u64 0, .int .i64 0, .slice none 0 0, .slice none 0 0] 32)).alloc (.cells #[.string ⟨#[]⟩, .string ⟨#[104, 103, 99, 113, 120]⟩, .string ⟨#[104, 103, 99, 113, 112, 100]⟩, .string ⟨#[104, 103, 99, 113, 112, 120]⟩, .string ⟨#[104, 103, 112]⟩, .string ⟨#[104, 103, 112]⟩, .string ⟨#[104, 103, 118]⟩, .string ⟨#[98, 115]⟩, .string ⟨#[98, 115, 120]⟩, .string ⟨#[98, 115, 120]⟩, .string ⟨#[98, 115]⟩, .string ⟨#[98]⟩, .string ⟨#[115, 120]⟩, .string ⟨#[115]⟩, .string ⟨#[99, 113, 112]⟩, .string ⟨#[104, 103, 99, 113, 112, 100, 120]⟩, .string ⟨#[104, 103, 99, 113, 112, 100]⟩, .string ⟨#[99, 113, 112, 100]⟩, .string ⟨#[98, 115]⟩] 9)) := M1.out.alloc _ |>.alloc _
    have TT : Tab ((w1.alloc (.cells #[.int .i64 kd, .int .u64 0, .int .u64 0, .int .i64 0, .int .i64 1, .int .u64 0, .int .u64 0, .int .u64 0, .int .i64 0, .slice none 0 0, .slice none 0 0] 32)).alloc (.cells #[.string ⟨#[]⟩, .string ⟨#[104, 103, 99, 113, 120]⟩, .string ⟨#[104, 103, 99, 113, 112, 100]⟩, .string ⟨#[104, 103, 99, 113, 112, 120]⟩, .string ⟨#[104, 103, 112]⟩, .string ⟨#[104, 103, 112]⟩, .string ⟨#[104, 103, 118]⟩, .string ⟨#[98, 115]⟩, .string ⟨#[98, 115, 120]⟩, .string ⟨#[98, 115, 120]⟩, .string ⟨#[98, 115]⟩, .string ⟨#[98]⟩, .string ⟨#[115, 120]⟩, .string ⟨#[115]⟩, .string ⟨#[99, 113, 112]⟩, .string ⟨#[104, 103, 99, 113, 112, 100, 120]⟩, .string ⟨#[104, 103, 99, 113, 112, 100]⟩, .string ⟨#[99, 113, 112, 100]⟩, .string ⟨#[98, 115]⟩] 9)) := HT1.out.mods ((Mods.refl Nil _).alloc _ |>.alloc _) (fun h => h)
    obtain ⟨W2, hW2⟩ : ∃ W2, ((w1.alloc (.cells #[.int .i64 kd, .int .u64 0, .int .u64 0, .int .i64 0, .int .i64 1, .int .u64 0, .int .u64 0, .int .u64 0, .int .i64 0, .slice none 0 0, .slice none 0 0] 32)).alloc (.cells #[.string ⟨#[]⟩, .string ⟨#[104, 103, 99, 113, 120]⟩, .string ⟨#[104, 103, 99, 113, 112, 100]⟩, .string ⟨#[104, 103, 99, 113, 112, 120]⟩, .string ⟨#[104, 103, 112]⟩, .string ⟨#[104, 103, 112]⟩, .string ⟨#[104, 103, 118]⟩, .string ⟨#[98, 115]⟩, .string ⟨#[98, 115, 120]⟩, .string ⟨#[98, 115, 120]⟩, .string ⟨#[98, 115]⟩, .string ⟨#[98]⟩, .string ⟨#[115, 120]⟩, .string ⟨#[115]⟩, .string ⟨#[99, 113, 112]⟩, .string ⟨#[104, 103, 99, 113, 112, 100, 120]⟩, .string ⟨#[104, 103, 99, 113, 112, 100]⟩, .string ⟨#[99, 113, 112, 100]⟩, .string ⟨#[98, 115]⟩] 9)) = W2 := ⟨_, rfl⟩
    rw [hW2] at BB MM TT ⊢
    have HBB := Lib.hid BB
    have HMM := Lib.hid MM
    have HTW := Lib.hid TT
    clear hW2 BB MM TT
    go_loopw [10, 11] (fun s i wr => i = .int .i64 0 ∧ s = .bool false ∧ Mods Nil W2 wr) (fun _ _ _ => 0)
    case atStart => exact ⟨rfl, rfl, Mods.refl _ _⟩
    case round =>
      obtain ⟨rfl, rfl, hmo⟩ := hrel
      have HMO := Lib.hid (HMM.out.trans hmo)
      obtain ⟨d0, d1, d2, d3, d4, d5, d6, d7, d8, d9, d10⟩ := (HBB.out.mods hmo (fun h => h)).mc
      dsimp only [List.length_nil, List.length_cons] at d0 d1 d2 d3 d4 d5 d6 d7 d8 d9 d10
      go_wp2_with (go_at_call 17; refine (check_any (m := { kind := kd, seg := 1 }) (L := {}) HOK.out (HTW.out.mods hmo (fun h => h))).mono ?_; rintro e w3 ⟨rfl, m3⟩; rw [HCK.out]; have M3 := Lib.hid (HMO.out.trans m3); clear m3)
      go_ret
      exact ⟨rfl, M3.out⟩

set_option maxHeartbeats 8000000 in
theorem msgKinds_hi_3 (w : World) (hT : Tab w) (kd : Int) (hkd : -9223372036854775808 ≤ kd ∧ kd ≤ 9223372036854775807) (d : Nat) (hd : d < 256) (hdk : d % 10 = 3) (h1 : 18 < kd) :
    Calls Tryd.prog 6 #[.int .i64 kd, .int .u8 d] w fun e w' => e = .returned (.bool true) ∧ Mods Nil w w' := by
    have HT := Lib.hid hT
    have hk : isK kd = false := by simp [isK]; omega
    have h2 : 1 ≤ kd := by omega
    clear hT
    have hok : PM.ok { kind := kd, seg := 1 } := by constructor <;> simp <;> omega
    have HOK := Lib.hid hok
    have hmod : (d : Int) % 10 = 3 := by omega
    have hmod2 : (d : Int).tmod 10 = 3 := by rw [Int.tmod_eq_emod_of_nonneg (by omega)]; omega
    have HCK : Hid (chk { kind := kd, seg := 1 } = 1) := chk_nokind hk
    clear hok hk
    go_enter Tryd.func6, Tryd.ntmps6
    go_wp2_with (go_at_call 9; refine (awake4_any _ HT.out).mono ?_; rintro e w1 ⟨rfl, m1⟩; have M1 := Lib.hid m1; have HT1 := Lib.hid (HT.out.mods m1 (fun h => h)); clear m1)
    have BB : Blk ((w1.alloc (.cells #[.int .i64 kd, .int .u64 0, .int .u64 0, .int .i64 0, .int .i64 1, .int .u64 0, .int .u64 0, .int .u64 0, .int .i64 0, .slice none 0 0, .slice none 0 0] 32)).alloc (.cells #[.string ⟨#[]⟩, .string ⟨#[104, 103, 99, 113, 120]⟩, .string ⟨#[104, 103, 99, 113, 112, 100]⟩, .string ⟨#[104, 103, 99, 113, 112, 120]⟩, .string ⟨#[104, 103, 112]⟩, .string ⟨#[104, 103, 112]⟩, .string ⟨#[104, 103, 118]⟩, .string ⟨#[98, 115]⟩, .string ⟨#[98, 115, 120]⟩, .string ⟨#[98, 115, 120]⟩, .string ⟨#[98, 115]⟩, .string ⟨#[98]⟩, .string ⟨#[115, 120]⟩, .string ⟨#[115]⟩, .string ⟨#[99, 113, 112]⟩, .string ⟨#[104, 103, 99, 113, 112, 100, 120]⟩, .string ⟨#[104, 103, 99, 113, 112, 100]⟩, .string ⟨#[99, 113, 112, 100]⟩, .string ⟨#[98, 115]⟩] 9)) w1.heap.size 32 (MC { kind := kd, seg := 1 } {}) := by exact (Blk.new w1 32 (MC { kind := kd, seg := 1 } {})).alloc _
    have MM : Mods Nil w ((w1.alloc (.cells #[.int .i64 kd, .int .u64 0, .int .u64 0, .int .i64 0, .int .i64 1, .int .u64 0, .int .u64 0, .int .u64 0, .int .i64 0, .slice none 0 0, .slice none 0 0] 32)).alloc (.cells #[.string ⟨#[]⟩, .string ⟨#[104, 103, 99, 113, 120]⟩, .string ⟨#[104, 103, 99, 113, 112, 100]⟩, .string ⟨#[104, 103, 99, 113, 112, 120]⟩, .string ⟨#[104, 103, 112]⟩, .string ⟨#[104, 103, 112]⟩, .string ⟨#[104, 103, 118]⟩, .string ⟨#[98, 115]⟩, .string ⟨#[98, 115, 120]⟩, .string ⟨#[98, 115, 120]⟩, .string ⟨#[98, 115]⟩, .string ⟨#[98]⟩, .string ⟨#[115, 120]⟩, .string ⟨#[115]⟩, .string ⟨#[99, 113, 112]⟩, .string ⟨#[104, 103, 99, 113, 112, 100, 120]⟩, .string ⟨#[104, 103, 99, 113, 112, 100]⟩, .string ⟨#[99, 113, 112, 100]⟩, .string ⟨#[98, 115]⟩] 9)) := M1.out.alloc _ |>.alloc _
    have TT : Tab ((w1.alloc (.cells #[.int .i64 kd, .int .u64 0, .int .u64 0, .int .i64 0, .int .i64 1, .int .u64 0, .int .u64 0, .int .u64 0, .int .i64 0, .slice none 0 0, .slice none 0 0] 32)).alloc (.cells #[.string ⟨#[]⟩, .string ⟨#[104, 103, 99, 113, 120]⟩, .string ⟨#[104, 103, 99, 113, 112, 100]⟩, .string ⟨#[104, 103, 99, 113, 112, 120]⟩, .string ⟨#[104, 103, 112]⟩, .string ⟨#[104, 103, 112]⟩, .string ⟨#[104, 103, 118]⟩, .string ⟨#[98, 115]⟩, .string ⟨#[98, 115, 120]⟩, .string ⟨#[98, 115, 120]⟩, .string ⟨#[98, 115]⟩, .string ⟨#[98]⟩, .string ⟨#[115, 120]⟩, .string ⟨#[115]⟩, .string ⟨#[99, 113, 112]⟩, .string ⟨#[104, 103, 99, 113, 112, 100, 120]⟩, .string ⟨#[104, 103, 99, 113, 112, 100]⟩, .string ⟨#[99, 113, 112, 100]⟩, .string ⟨#[98, 115]⟩] 9)) := HT1.out.mods ((Mods.refl Nil _).alloc _ |>.alloc _) (fun h => h)
    obtain ⟨W2, hW2⟩ : ∃ W2, ((w1.alloc (.cells #[.int .i64 kd, .int .u64 0, .int .u64 0, .int .i64 0, .int .i64 1, .int .u64 0, .int .u64 0, .int .u64 0, .int .i64 0, .slice none 0 0, .slice none 0 0] 32)).alloc (.cells #[.string ⟨#[]⟩, .string ⟨#[104, 103, 99, 113, 120]⟩, .string ⟨#[104, 103, 99, 113, 112, 100]⟩, .string ⟨#[104, 103, 99, 113, 112, 120]⟩, .string ⟨#[104, 103, 112]⟩, .string ⟨#[104, 103, 112]⟩, .string ⟨#[104, 103, 118]⟩, .string ⟨#[98, 115]⟩, .string ⟨#[98, 115, 120]⟩, .string ⟨#[98, 115, 120]⟩, .string ⟨#[98, 115]⟩, .string ⟨#[98]⟩, .string ⟨#[115, 120]⟩, .string ⟨#[115]⟩, .string ⟨#[99, 113, 112]⟩, .string ⟨#[104, 103, 99, 113, 112, 100, 120]⟩, .string ⟨#[104, 103, 99, 113, 112, 100]⟩, .string ⟨#[99, 113, 112, 100]⟩, .string ⟨#[98, 115]⟩] 9)) = W2 := ⟨_, rfl⟩
    rw [hW2] at BB MM TT ⊢
    have HBB := Lib.hid BB
    have HMM := Lib.hid MM
    have HTW := Lib.hid TT
    clear hW2 BB MM TT
    go_loopw [10, 11] (fun s i wr => i = .int .i64 0 ∧ s = .bool false ∧ Mods Nil W2 wr) (fun _ _ _ => 0)
    case atStart => exact ⟨rfl, rfl, Mods.refl _ _⟩
    case round =>
      obtain ⟨rfl, rfl, hmo⟩ := hrel
      have HMO := Lib.hid (HMM.out.trans hmo)
      obtain ⟨d0, d1, d2, d3, d4, d5, d6, d7, d8, d9, d10⟩ := (HBB.out.mods hmo (fun h => h)).mc
      dsimp only [List.length_nil, List.length_cons] at d0 d1 d2 d3 d4 d5 d6 d7 d8 d9 d10
      go_wp2_with (go_at_call 17; refine (check_any (m := { kind := kd, seg := 1 }) (L := {}) HOK.out (HTW.out.mods hmo (fun h => h))).mono ?_; rintro e w3 ⟨rfl, m3⟩; rw [HCK.out]; have M3 := Lib.hid (HMO.out.trans m3); clear m3)
      go_ret
      exact ⟨rfl, M3.out⟩

set_option maxHeartbeats 8000000 in
theorem msgKinds_lo_4 (w : World) (hT : Tab w) (kd : Int) (hkd : -9223372036854775808 ≤ kd ∧ kd ≤ 9223372036854775807) (d : Nat) (hd : d < 256) (hdk : d % 10 = 4) (h1 : kd < 1) :
    Calls Tryd.prog 6 #[.int .i64 kd, .int .u8 d] w fun e w' => e = .returned (.bool true) ∧ Mods Nil w w' := by
    have HT := Lib.hid hT
    have hk : isK kd = false := by simp [isK]; omega

    clear hT
    have hok : PM.ok { kind := kd, client := 1 } := by constructor <;> simp <;> omega
    have HOK := Lib.hid hok
    have hmod : (d : Int) % 10 = 4 := by omega
    have hmod2 : (d : Int).tmod 10 = 4 := by rw [Int.tmod_eq_emod_of_nonneg (by omega)]; omega
    have HCK : Hid (chk { kind := kd, client := 1 } = 1) := chk_nokind hk
    clear hok hk
    go_enter Tryd.func6, Tryd.ntmps6
    go_wp2_with (go_at_call 9; refine (awake4_any _ HT.out).mono ?_; rintro e w1 ⟨rfl, m1⟩; have M1 := Lib.hid m1; have HT1 := Lib.hid (HT.out.mods m1 (fun h => h)); clear m1)
    have BB : Blk ((w1.alloc (.cells #[.int .i64 kd, .int .u64 0, .int .u64 0, .int .i64 0, .int .i64 0, .int .u64 1, .int .u64 0, .int .u64 0, .int .i64 0, .slice none 0 0, .slice none 0 0] 32)).alloc (.cells #[.string ⟨#[]⟩, .string ⟨#[104, 103, 99, 113, 120]⟩, .string ⟨#[104, 103, 99, 113, 112, 100]⟩, .string ⟨#[104, 103, 99, 113, 112, 120]⟩, .string ⟨#[104, 103, 112]⟩, .string ⟨#[104, 103, 112]⟩, .string ⟨#[104, 103, 118]⟩, .string ⟨#[98, 115]⟩, .string ⟨#[98, 115, 120]⟩, .string ⟨#[98, 115, 120]⟩, .string ⟨#[98, 115]⟩, .string ⟨#[98]⟩, .string ⟨#[115, 120]⟩, .string ⟨#[115]⟩, .string ⟨#[99, 113, 112]⟩, .string ⟨#[104, 103, 99, 113, 112, 100, 120]⟩, .string ⟨#[104, 103, 99, 113, 112, 100]⟩, .string ⟨#[99, 113, 112, 100]⟩, .string ⟨#[98, 115]⟩] 9)) w1.heap.size 32 (MC { kind := kd, client := 1 } {}) := by exact (Blk.new w1 32 (MC { kind := kd, client := 1 } {})).alloc _
    have MM : Mods Nil w ((w1.alloc (.cells #[.int .i64 kd, .int .u64 0, .int .u64 0, .int .i64 0, .int .i64 0, .int .u64 1, .int .u64 0, .int .u64 0, .int .i64 0, .slice none 0 0, .slice none 0 0] 32)).alloc (.cells #[.string ⟨#[]⟩, .string ⟨#[104, 103, 99, 113, 120]⟩, .string ⟨#[104, 103, 99, 113, 112, 100]⟩, .string ⟨#[104, 103, 99, 113, 112, 120]⟩, .string ⟨#[104, 103, 112]⟩, .string ⟨#[104, 103, 112]⟩, .string ⟨#[104, 103, 118]⟩, .string ⟨#[98, 115]⟩, .string ⟨#[98, 115, 120]⟩, .string ⟨#[98, 115, 120]⟩, .string ⟨#[98, 115]⟩, .string ⟨#[98]⟩, .string ⟨#[115, 120]⟩, .string ⟨#[115]⟩, .string ⟨#[99, 113, 112]⟩, .string ⟨#[104, 103, 99, 113, 112, 100, 120]⟩, .string ⟨#[104, 103, 99, 113, 112, 100]⟩, .string ⟨#[99, 113, 112, 100]⟩, .string ⟨#[98, 115]⟩] 9)) := M1.out.alloc _ |>.alloc _
    have TT : Tab ((w1.alloc (.cells #[.int .i64 kd, .int .u64 0, .int .u64 0, .int .i64 0, .int .i64 0, .int .u64 1, .int .u64 0, .int .u64 0, .int .i64 0, .slice none 0 0, .slice none 0 0] 32)).alloc (.cells #[.string ⟨#[]⟩, .string ⟨#[104, 103, 99, 113, 120]⟩, .string ⟨#[104, 103, 99, 113, 112, 100]⟩, .string ⟨#[104, 103, 99, 113, 112, 120]⟩, .string ⟨#[104, 103, 112]⟩, .string ⟨#[104, 103, 112]⟩, .string ⟨#[104, 103, 118]⟩, .string ⟨#[98, 115]⟩, .string ⟨#[98, 115, 120]⟩, .string ⟨#[98, 115, 120]⟩, .string ⟨#[98, 115]⟩, .string ⟨#[98]⟩, .string ⟨#[115, 120]⟩, .string ⟨#[115]⟩, .string ⟨#[99, 113, 112]⟩, .string ⟨#[104, 103, 99, 113, 112, 100, 120]⟩, .string ⟨#[104, 103, 99, 113, 112, 100]⟩, .string ⟨#[99, 113, 112, 100]⟩, .string ⟨#[98, 115]⟩] 9)) := HT1.out.mods ((Mods.refl Nil _).alloc _ |>.alloc _) (fun h => h)
    obtain ⟨W2, hW2⟩ : ∃ W2, ((w1.alloc (.cells #[.int .i64 kd, .int .u64 0, .int .u64 0, .int .i64 0, .int .i64 0, .int .u64 1, .int .u64 0, .int .u64 0, .int .i64 0, .slice none 0 0, .slice none 0 0] 32)).alloc (.cells #[.string ⟨#[]⟩, .string ⟨#[104, 103, 99, 113, 120]⟩, .string ⟨#[104, 103, 99, 113, 112, 100]⟩, .string ⟨#[104, 103, 99, 113, 112, 120]⟩, .string ⟨#[104, 103, 112]⟩, .string ⟨#[104, 103, 112]⟩, .string ⟨#[104, 103, 118]⟩, .string ⟨#[98, 115]⟩, .string ⟨#[98, 115, 120]⟩, .string ⟨#[98, 115, 120]⟩, .string ⟨#[98, 115]⟩, .string ⟨#[98]⟩, .string ⟨#[115, 120]⟩, .string ⟨#[115]⟩, .string ⟨#[99, 113, 112]⟩, .string ⟨#[104, 103, 99, 113, 112, 100, 120]⟩, .string ⟨#[104, 103, 99, 113, 112, 100]⟩, .string ⟨#[99, 113, 112, 100]⟩, .string ⟨#[98, 115]⟩] 9)) = W2 := ⟨_, rfl⟩
    rw [hW2] at BB MM TT ⊢
    have HBB := Lib.hid BB
    have HMM := Lib.hid MM
    have HTW := Lib.hid TT
    clear hW2 BB MM TT
    go_loopw [10, 11] (fun s i wr => i = .int .i64 0 ∧ s = .bool false ∧ Mods Nil W2 wr) (fun _ _ _ => 0)
    case atStart => exact ⟨rfl, rfl, Mods.refl _ _⟩
    case round =>
      obtain ⟨rfl, rfl, hmo⟩ := hrel
      have HMO := Lib.hid (HMM.out.trans hmo)
      obtain ⟨d0, d1, d2, d3, d4, d5, d6, d7, d8, d9, d10⟩ := (HBB.out.mods hmo (fun h => h)).mc
      dsimp only [List.length_nil, List.length_cons] at d0 d1 d2 d3 d4 d5 d6 d7 d8 d9 d10
      go_wp2_with (go_at_call 17; refine (check_any (m := { kind := kd, client := 1 }) (L := {}) HOK.out (HTW.out.mods hmo (fun h => h))).mono ?_; rintro e w3 ⟨rfl, m3⟩; rw [HCK.out]; have M3 := Lib.hid (HMO.out.trans m3); clear m3)
      go_ret
      exact ⟨rfl, M3.out⟩

set_option maxHeartbeats 8000000 in
theorem msgKinds_hi_4 (w : World) (hT : Tab w) (kd : Int) (hkd : -9223372036854775808 ≤ kd ∧ kd ≤ 9223372036854775807) (d : Nat) (hd : d < 256) (hdk : d % 10 = 4) (h1 : 18 < kd) :
    Calls Tryd.prog 6 #[.int .i64 kd, .int .u8 d] w fun e w' => e = .returned (.bool true) ∧ Mods Nil w w' := by
    have HT := Lib.hid hT
    have hk : isK kd = false := by simp [isK]; omega
    have h2 : 1 ≤ kd := by omega
    clear hT
    have hok : PM.ok { kind := kd, client := 1 } := by constructor <;> simp <;> omega
    have HOK := Lib.hid hok
    have hmod : (d : Int) % 10 = 4 := by omega
    have hmod2 : (d : Int).tmod 10 = 4 := by rw [Int.tmod_eq_emod_of_nonneg (by omega)]; omega
    have HCK : Hid (chk { kind := kd, client := 1 } = 1) := chk_nokind hk
    clear hok hk
    go_enter Tryd.func6, Tryd.ntmps6
    go_wp2_with (go_at_call 9; refine (awake4_any _ HT.out).mono ?_; rintro e w1 ⟨rfl, m1⟩; have M1 := Lib.hid m1; have HT1 := Lib.hid (HT.out.mods m1 (fun h => h)); clear m1)
    have BB : Blk ((w1.alloc (.cells #[.int .i64 kd, .int .u64 0, .int .u64 0, .int .i64 0, .int .i64 0, .int .u64 1, .int .u64 0, .int .u64 0, .int .i64 0, .slice none 0 0, .slice none 0 0] 32)).alloc (.cells #[.string ⟨#[]⟩, .string ⟨#[104, 103, 99, 113, 120]⟩, .string ⟨#[104, 103, 99, 113, 112, 100]⟩, .string ⟨#[104, 103, 99, 113, 112, 120]⟩, .string ⟨#[104, 103, 112]⟩, .string ⟨#[104, 103, 112]⟩, .string ⟨#[104, 103, 118]⟩, .string ⟨#[98, 115]⟩, .string ⟨#[98, 115, 120]⟩, .string ⟨#[98, 115, 120]⟩, .string ⟨#[98, 115]⟩, .string ⟨#[98]⟩, .string ⟨#[115, 120]⟩, .string ⟨#[115]⟩, .string ⟨#[99, 113, 112]⟩, .string ⟨#[104, 103, 99, 113, 112, 100, 120]⟩, .string ⟨#[104, 103, 99, 113, 112, 100]⟩, .string ⟨#[99, 113, 112, 100]⟩, .string ⟨#[98, 115]⟩] 9)) w1.heap.size 32 (MC { kind := kd, client := 1 } {}) := by exact (Blk.new w1 32 (MC { kind := kd, client := 1 } {})).alloc _
    have MM : Mods Nil w ((w1.alloc (.cells #[.int .i64 kd, .int .u64 0, .int .u64 0, .int .i64 0, .int .i64 0, .int .u64 1, .int .u64 0, .int .u64 0, .int .i64 0, .slice none 0 0, .slice none 0 0] 32)).alloc (.cells #[.string ⟨#[]⟩, .string ⟨#[104, 103, 99, 113, 120]⟩, .string ⟨#[104, 103, 99, 113, 112, 100]⟩, .string ⟨#[104, 103, 99, 113, 112, 120]⟩, .string ⟨#[104, 103, 112]⟩, .string ⟨#[104, 103, 112]⟩, .string ⟨#[104, 103, 118]⟩, .string ⟨#[98, 115]⟩, .string ⟨#[98, 115, 120]⟩, .string ⟨#[98, 115, 120]⟩, .string ⟨#[98, 115]⟩, .string ⟨#[98]⟩, .string ⟨#[115, 120]⟩, .string ⟨#[115]⟩, .string ⟨#[99, 113, 112]⟩, .string ⟨#[104, 103, 99, 113, 112, 100, 120]⟩, .string ⟨#[104, 103, 99, 113, 112, 100]⟩, .string ⟨#[99, 113, 112, 100]⟩, .string ⟨#[98, 115]⟩] 9)) := M1.out.alloc _ |>.alloc _
    have TT : Tab ((w1.alloc (.cells #[.int .i64 kd, .int .u64 0, .int .u64 0, .int .i64 0, .int .i64 0, .int .u64 1, .int .u64 0, .int .u64 0, .int .i64 0, .slice none 0 0, .slice none 0 0] 32)).alloc (.cells #[.string ⟨#[]⟩, .string ⟨#[104, 103, 99, 113, 120]⟩, .string ⟨#[104, 103, 99, 113, 112, 100]⟩, .string ⟨#[104, 103, 99, 113, 112, 120]⟩, .string ⟨#[104, 103, 112]⟩, .string ⟨#[104, 103, 112]⟩, .string ⟨#[104, 103, 118]⟩, .string ⟨#[98, 115]⟩, .string ⟨#[98, 115, 120]⟩, .string ⟨#[98, 115, 120]⟩, .string ⟨#[98, 115]⟩, .string ⟨#[98]⟩, .string ⟨#[115, 120]⟩, .string ⟨#[115]⟩, .string ⟨#[99, 113, 112]⟩, .string ⟨#[104, 103, 99, 113, 112, 100, 120]⟩, .string ⟨#[104, 103, 99, 113, 112, 100]⟩, .string ⟨#[99, 113, 112, 100]⟩, .string ⟨#[98, 115]⟩] 9)) := HT1.out.mods ((Mods.refl Nil _).alloc _ |>.alloc _) (fun h => h)
    obtain ⟨W2, hW2⟩ : ∃ W2, ((w1.alloc (.cells #[.int .i64 kd, .int .u64 0, .int .u64 0, .int .i64 0, .int .i64 0, .int .u64 1, .int .u64 0, .int .u64 0, .int .i64 0, .slice none 0 0, .slice none 0 0] 32)).alloc (.cells #[.string ⟨#[]⟩, .string ⟨#[104, 103, 99, 113, 120]⟩, .string ⟨#[104, 103, 99, 113, 112, 100]⟩, .string ⟨#[104, 103, 99, 113, 112, 120]⟩, .string ⟨#[104, 103, 112]⟩, .string ⟨#[104, 103, 112]⟩, .string ⟨#[104, 103, 118]⟩, .string ⟨#[98, 115]⟩, .string ⟨#[98, 115, 120]⟩, .string ⟨#[98, 115, 120]⟩, .string ⟨#[98, 115]⟩, .string ⟨#[98]⟩, .string ⟨#[115, 120]⟩, .string ⟨#[115]⟩, .string ⟨#[99, 113, 112]⟩, .string ⟨#[104, 103, 99, 113, 112, 100, 120]⟩, .string ⟨#[104, 103, 99, 113, 112, 100]⟩, .string ⟨#[99, 113, 112, 100]⟩, .string ⟨#[98, 115]⟩] 9)) = W2 := ⟨_, rfl⟩
    rw [hW2] at BB MM TT ⊢
    have HBB := Lib.hid BB
    have HMM := Lib.hid MM
    have HTW := Lib.hid TT
    clear hW2 BB MM TT
    go_loopw [10, 11] (fun s i wr => i = .int .i64 0 ∧ s = .bool false ∧ Mods Nil W2 wr) (fun _ _ _ => 0)
    case atStart => exact ⟨rfl, rfl, Mods.refl _ _⟩
    case round =>
      obtain ⟨rfl, rfl, hmo⟩ := hrel
      have HMO := Lib.hid (HMM.out.trans hmo)
      obtain ⟨d0, d1, d2, d3, d4, d5, d6, d7, d8, d9, d10⟩ := (HBB.out.mods hmo (fun h => h)).mc
      dsimp only [List.length_nil, List.length_cons] at d0 d1 d2 d3 d4 d5 d6 d7 d8 d9 d10
      go_wp2_with (go_at_call 17; refine (check_any (m := { kind := kd, client := 1 }) (L := {}) HOK.out (HTW.out.mods hmo (fun h => h))).mono ?_; rintro e w3 ⟨rfl, m3⟩; rw [HCK.out]; have M3 := Lib.hid (HMO.out.trans m3); clear m3)
      go_ret
      exact ⟨rfl, M3.out⟩

set_option maxHeartbeats 8000000 in
theorem msgKinds_lo_5 (w : World) (hT : Tab w) (kd : Int) (hkd : -9223372036854775808 ≤ kd ∧ kd ≤ 9223372036854775807) (d : Nat) (hd : d < 256) (hdk : d % 10 = 5) (h1 : kd < 1) :
    Calls Tryd.prog 6 #[.int .i64 kd, .int .u8 d] w fun e w' => e = .returned (.bool true) ∧ Mods Nil w w' := by
    have HT := Lib.hid hT
    have hk : isK kd = false := by simp [isK]; omega

    clear hT
    have hok : PM.ok { kind := kd, seq := 1 } := by constructor <;> simp <;> omega
    have HOK := Lib.hid hok
    have hmod : (d : Int) % 10 = 5 := by omega
    have hmod2 : (d : Int).tmod 10 = 5 := by rw [Int.tmod_eq_emod_of_nonneg (by omega)]; omega
    have HCK : Hid (chk { kind := kd, seq := 1 } = 1) := chk_nokind hk
    clear hok hk
    go_enter Tryd.func6, Tryd.ntmps6
    go_wp2_with (go_at_call 9; refine (awake4_any _ HT.out).mono ?_; rintro e w1 ⟨rfl, m1⟩; have M1 := Lib.hid m1; have HT1 := Lib.hid (HT.out.mods m1 (fun h => h)); clear m1)
    have BB : Blk ((w1.alloc (.cells #[.int .i64 kd, .int .u64 0, .int .u64 0, .int .i64 0, .int .i64 0, .int .u64 0, .int .u64 1, .int .u64 0, .int .i64 0, .slice none 0 0, .slice none 0 0] 32)).alloc (.cells #[.string ⟨#[]⟩, .string ⟨#[104, 103, 99, 113, 120]⟩, .string ⟨#[104, 103, 99, 113, 112, 100]⟩, .string ⟨#[104, 103, 99, 113, 112, 120]⟩, .string ⟨#[104, 103, 112]⟩, .string ⟨#[104, 103, 112]⟩, .string ⟨#[104, 103, 118]⟩, .string ⟨#[98, 115]⟩, .string ⟨#[98, 115, 120]⟩, .string ⟨#[98, 115, 120]⟩, .string ⟨#[98, 115]⟩, .string ⟨#[98]⟩, .string ⟨#[115, 120]⟩, .string ⟨#[115]⟩, .string ⟨#[99, 113, 112]⟩, .string ⟨#[104, 103, 99, 113, 112, 100, 120]⟩, .string ⟨#[104, 103, 99, 113, 112, 100]⟩, .string ⟨#[99, 113, 112, 100]⟩, .string ⟨#[98, 115]⟩] 9)) w1.heap.size 32 (MC { kind := kd, seq := 1 } {}) := by exact (Blk.new w1 32 (MC { kind := kd, seq := 1 } {})).alloc _
    have MM : Mods Nil w ((w1.alloc (.cells #[.int .i64 kd, .int .u64 0, .int .u64 0, .int .i64 0, .int .i64 0, .int .u64 0, .int .u64 1, .int .u64 0, .int .i64 0, .slice none 0 0, .slice none 0 0] 32)).alloc (.cells #[.string ⟨#[]⟩, .string ⟨#[104, 103, 99, 113, 120]⟩, .string ⟨#[104, 103, 99, 113, 112, 100]⟩, .string ⟨#[104, 103, 99, 113, 112, 120]⟩, .string ⟨#[104, 103, 112]⟩, .string ⟨#[104, 103, 112]⟩, .string ⟨#[104, 103, 118]⟩, .string ⟨#[98, 115]⟩, .string ⟨#[98, 115, 120]⟩, .string ⟨#[98, 115, 120]⟩, .string ⟨#[98, 115]⟩, .string ⟨#[98]⟩, .string ⟨#[115, 120]⟩, .string ⟨#[115]⟩, .string ⟨#[99, 113, 112]⟩, .string ⟨#[104, 103, 99, 113, 112, 100, 120]⟩, .string ⟨#[104, 103, 99, 113, 112, 100]⟩, .string ⟨#[99, 113, 112, 100]⟩, .string ⟨#[98, 115]⟩] 9)) := M1.out.alloc _ |>.alloc _
    have TT : Tab ((w1.alloc (.cells #[.int .i64 kd, .int .u64 0, .int .u64 0, .int .i64 0, .int .i64 0, .int .u64 0, .int .u64 1, .int .u64 0, .int .i64 0, .slice none 0 0, .slice none 0 0] 32)).alloc (.cells #[.string ⟨#[]⟩, .string ⟨#[104, 103, 99, 113, 120]⟩, .string ⟨#[104, 103, 99, 113, 112, 100]⟩, .string ⟨#[104, 103, 99, 113, 112, 120]⟩, .string ⟨#[104, 103, 112]⟩, .string ⟨#[104, 103, 112]⟩, .string ⟨#[104, 103, 118]⟩, .string ⟨#[98, 115]⟩, .string ⟨#[98, 115, 120]⟩, .string ⟨#[98, 115, 120]⟩, .string ⟨#[98, 115]⟩, .string ⟨#[98]⟩, .string ⟨#[115, 120]⟩, .string ⟨#[115]⟩, .string ⟨#[99, 113, 112]⟩, .string ⟨#[104, 103, 99, 113, 112, 100, 120]⟩, .string ⟨#[104, 103, 99, 113, 112, 100]⟩, .string ⟨#[99, 113, 112, 100]⟩, .string ⟨#[98, 115]⟩] 9)) := HT1.out.mods ((Mods.refl Nil _).alloc _ |>.alloc _) (fun h => h)
    obtain ⟨W2, hW2⟩ : ∃ W2, ((w1.alloc (.cells #[.int .i64 kd, .int .u64 0, .int .u64 0, .int .i64 0, .int .i64 0, .int .u64 0, .int .u64 1, .int .u64 0, .int .i64 0, .slice none 0 0, .slice none 0 0] 32)).alloc (.cells #[.string ⟨#[]⟩, .string ⟨#[104, 103, 99, 113, 120]⟩, .string ⟨#[104, 103, 99, 113, 112, 100]⟩, .string ⟨#[104, 103, 99, 113, 112, 120]⟩, .string ⟨#[104, 103, 112]⟩, .string ⟨#[104, 103, 112]⟩, .string ⟨#[104, 103, 118]⟩, .string ⟨#[98, 115]⟩, .string ⟨#[98, 115, 120]⟩, .string ⟨#[98, 115, 120]⟩, .string ⟨#[98, 115]⟩, .string ⟨#[98]⟩, .string ⟨#[115, 120]⟩, .string ⟨#[115]⟩, .string ⟨#[99, 113, 112]⟩, .string ⟨#[104, 103, 99, 113, 112, 100, 120]⟩, .string ⟨#[104, 103, 99, 113, 112, 100]⟩, .string ⟨#[99, 113, 112, 100]⟩, .string ⟨#[98, 115]⟩] 9)) = W2 := ⟨_, rfl⟩
    rw [hW2] at BB MM TT ⊢
    have HBB := Lib.hid BB
    have HMM := Lib.hid MM
    have HTW := Lib.hid TT
    clear hW2 BB MM TT
    go_loopw [10, 11] (fun s i wr => i = .int .i64 0 ∧ s = .bool false ∧ Mods Nil W2 wr) (fun _ _ _ => 0)
    case atStart => exact ⟨rfl, rfl, Mods.refl _ _⟩
    case round =>
      obtain ⟨rfl, rfl, hmo⟩ := hrel
      have HMO := Lib.hid (HMM.out.trans hmo)
      obtain ⟨d0, d1, d2, d3, d4, d5, d6, d7, d8, d9, d10⟩ := (HBB.out.mods hmo (fun h => h)).mc
      dsimp only [List.length_nil, List.length_cons] at d0 d1 d2 d3 d4 d5 d6 d7 d8 d9 d10
      go_wp2_with (go_at_call 17; refine (check_any (m := { kind := kd, seq := 1 }) (L := {}) HOK.out (HTW.out.mods hmo (fun h => h))).mono ?_; rintro e w3 ⟨rfl, m3⟩; rw [HCK.out]; have M3 := Lib.hid (HMO.out.trans m3); clear m3)
      go_ret
      exact ⟨rfl, M3.out⟩

set_option maxHeartbeats 8000000 in
theorem msgKinds_hi_5 (w : World) (hT : Tab w) (kd : Int) (hkd : -9223372036854775808 ≤ kd ∧ kd ≤ 9223372036854775807) (d : Nat) (hd : d < 256) (hdk : d % 10 = 5) (h1 : 18 < kd) :
    Calls Tryd.prog 6 #[.int .i64 kd, .int .u8 d] w fun e w' => e = .returned (.bool true) ∧ Mods Nil w w' := by
    have HT := Lib.hid hT
    have hk : isK kd = false := by simp [isK]; omega
    have h2 : 1 ≤ kd := by omega
    clear hT
    have hok : PM.ok { kind := kd, seq := 1 } := by constructor <;> simp <;> omega
    have HOK := Lib.hid hok
    have hmod : (d : Int) % 10 = 5 := by omega
    have hmod2 : (d : Int).tmod 10 = 5 := by rw [Int.tmod_eq_emod_of_nonneg (by omega)]; omega
    have HCK : Hid (chk { kind := kd, seq := 1 } = 1) := chk_nokind hk
    clear hok hk
    go_enter Tryd.func6, Tryd.ntmps6
    go_wp2_with (go_at_call 9; refine (awake4_any _ HT.out).mono ?_; rintro e w1 ⟨rfl, m1⟩; have M1 := Lib.hid m1; have HT1 := Lib.hid (HT.out.mods m1 (fun h => h)); clear m1)
    have BB : Blk ((w1.alloc (.cells #[.int .i64 kd, .int .u64 0, .int .u64 0, .int .i64 0, .int .i64 0, .int .u64 0, .int .u64 1, .int .u64 0, .int .i64 0, .slice none 0 0, .slice none 0 0] 32)).alloc (.cells #[.string ⟨#[]⟩, .string ⟨#[104, 103, 99, 113, 120]⟩, .string ⟨#[104, 103, 99, 113, 112, 100]⟩, .string ⟨#[104, 103, 99, 113, 112, 120]⟩, .string ⟨#[104, 103, 112]⟩, .string ⟨#[104, 103, 112]⟩, .string ⟨#[104, 103, 118]⟩, .string ⟨#[98, 115]⟩, .string ⟨#[98, 115, 120]⟩, .string ⟨#[98, 115, 120]⟩, .string ⟨#[98, 115]⟩, .string ⟨#[98]⟩, .string ⟨#[115, 120]⟩, .string ⟨#[115]⟩, .string ⟨#[99, 113, 112]⟩, .string ⟨#[104, 103, 99, 113, 112, 100, 120]⟩, .string ⟨#[104, 103, 99, 113, 112, 100]⟩, .string ⟨#[99, 113, 112, 100]⟩, .string ⟨#[98, 115]⟩] 9)) w1.heap.size 32 (MC { kind := kd, seq := 1 } {}) := by exact (Blk.new w1 32 (MC { kind := kd, seq := 1 } {})).alloc _
    have MM : Mods Nil w ((w1.alloc (.cells #[.int .i64 kd, .int .u64 0, .int .u64 0, .int .i64 0, .int .i64 0, .int .u64 0, .int .u64 1, .int .u64 0, .int .i64 0, .slice none 0 0, .slice none 0 0] 32)).alloc (.cells #[.string ⟨#[]⟩, .string ⟨#[104, 103, 99, 113, 120]⟩, .string ⟨#[104, 103, 99, 113, 112, 100]⟩, .string ⟨#[104, 103, 99, 113, 112, 120]⟩, .string ⟨#[104, 103, 112]⟩, .string ⟨#[104, 103, 112]⟩, .string ⟨#[104, 103, 118]⟩, .string ⟨#[98, 115]⟩, .string ⟨#[98, 115, 120]⟩, .string ⟨#[98, 115, 120]⟩, .string ⟨#[98, 115]⟩, .string ⟨#[98]⟩, .string ⟨#[115, 120]⟩, .string ⟨#[115]⟩, .string ⟨#[99, 113, 112]⟩, .string ⟨#[104, 103, 99, 113, 112, 100, 120]⟩, .string ⟨#[104, 103, 99, 113, 112, 100]⟩, .string ⟨#[99, 113, 112, 100]⟩, .string ⟨#[98, 115]⟩] 9)) := M1.out.alloc _ |>.alloc _
    have TT : Tab ((w1.alloc (.cells #[.int .i64 kd, .int .u64 0, .int .u64 0, .int .i64 0, .int .i64 0, .int .u64 0, .int .u64 1, .int .u64 0, .int .i64 0, .slice none 0 0, .slice none 0 0] 32)).alloc (.cells #[.string ⟨#[]⟩, .string ⟨#[104, 103, 99, 113, 120]⟩, .string ⟨#[104, 103, 99, 113, 112, 100]⟩, .string ⟨#[104, 103, 99, 113, 112, 120]⟩, .string ⟨#[104, 103, 112]⟩, .string ⟨#[104, 103, 112]⟩, .string ⟨#[104, 103, 118]⟩, .string ⟨#[98, 115]⟩, .string ⟨#[98, 115, 120]⟩, .string ⟨#[98, 115, 120]⟩, .string ⟨#[98, 115]⟩, .string ⟨#[98]⟩, .string ⟨#[115, 120]⟩, .string ⟨#[115]⟩, .string ⟨#[99, 113, 112]⟩, .string ⟨#[104, 103, 99, 113, 112, 100, 120]⟩, .string ⟨#[104, 103, 99, 113, 112, 100]⟩, .string ⟨#[99, 113, 112, 100]⟩, .string ⟨#[98, 115]⟩] 9)) := HT1.out.mods ((Mods.refl Nil _).alloc _ |>.alloc _) (fun h => h)
    obtain ⟨W2, hW2⟩ : ∃ W2, ((w1.alloc (.cells #[.int .i64 kd, .int .u64 0, .int .u64 0, .int .i64 0, .int .i64 0, .int .u64 0, .int .u64 1, .int .u64 0, .int .i64 0, .slice none 0 0, .slice none 0 0] 32)).alloc (.cells #[.string ⟨#[]⟩, .string ⟨#[104, 103, 99, 113, 120]⟩, .string ⟨#[104, 103, 99, 113, 112, 100]⟩, .string ⟨#[104, 103, 99, 113, 112, 120]⟩, .string ⟨#[104, 103, 112]⟩, .string ⟨#[104, 103, 112]⟩, .string ⟨#[104, 103, 118]⟩, .string ⟨#[98, 115]⟩, .string ⟨#[98, 115, 120]⟩, .string ⟨#[98, 115, 120]⟩, .string ⟨#[98, 115]⟩, .string ⟨#[98]⟩, .string ⟨#[115, 120]⟩, .string ⟨#[115]⟩, .string ⟨#[99, 113, 112]⟩, .string ⟨#[104, 103, 99, 113, 112, 100, 120]⟩, .string ⟨#[104, 103, 99, 113, 112, 100]⟩, .string ⟨#[99, 113, 112, 100]⟩, .string ⟨#[98, 115]⟩] 9)) = W2 := ⟨_, rfl⟩
    rw [hW2] at BB MM TT ⊢
    have HBB := Lib.hid BB
    have HMM := Lib.hid MM
    have HTW := Lib.hid TT
    clear hW2 BB MM TT
    go_loopw [10, 11] (fun s i wr => i = .int .i64 0 ∧ s = .bool false ∧ Mods Nil W2 wr) (fun _ _ _ => 0)
    case atStart => exact ⟨rfl, rfl, Mods.refl _ _⟩
    case round =>
      obtain ⟨rfl, rfl, hmo⟩ := hrel
      have HMO := Lib.hid (HMM.out.trans hmo)
      obtain ⟨d0, d1, d2, d3, d4, d5, d6, d7, d8, d9, d10⟩ := (HBB.out.mods hmo (fun h => h)).mc
      dsimp only [List.length_nil, List.length_cons] at d0 d1 d2 d3 d4 d5 d6 d7 d8 d9 d10
      go_wp2_with (go_at_call 17; refine (check_any (m := { kind := kd, seq := 1 }) (L := {}) HOK.out (HTW.out.mods hmo (fun h => h))).mono ?_; rintro e w3 ⟨rfl, m3⟩; rw [HCK.out]; have M3 := Lib.hid (HMO.out.trans m3); clear m3)
      go_ret
      exact ⟨rfl, M3.out⟩

set_option maxHeartbeats 8000000 in
theorem msgKinds_lo_6 (w : World) (hT : Tab w) (kd : Int) (hkd : -9223372036854775808 ≤ kd ∧ kd ≤ 9223372036854775807) (d : Nat) (hd : d < 256) (hdk : d % 10 = 6) (h1 : kd < 1) :
    Calls Tryd.prog 6 #[.int .i64 kd, .int .u8 d] w fun e w' => e = .returned (.bool true) ∧ Mods Nil w w' := by
    have HT := Lib.hid hT
    have hk : isK kd = false := by simp [isK]; omega

    clear hT
    have hok : PM.ok { kind := kd, pos := 1 } := by constructor <;> simp <;> omega
    have HOK := Lib.hid hok
    have hmod : (d : Int) % 10 = 6 := by omega
    have hmod2 : (d : Int).tmod 10 = 6 := by rw [Int.tmod_eq_emod_of_nonneg (by omega)]; omega
    have HCK : Hid (chk { kind := kd, pos := 1 } = 1) := chk_nokind hk
    clear hok hk
    go_enter Tryd.func6, Tryd.ntmps6
    go_wp2_with (go_at_call 9; refine (awake4_any _ HT.out).mono ?_; rintro e w1 ⟨rfl, m1⟩; have M1 := Lib.hid m1; have HT1 := Lib.hid (HT.out.mods m1 (fun h => h)); clear m1)
    have BB : Blk ((w1.alloc (.cells #[.int .i64 kd, .int .u64 0, .int .u64 0, .int .i64 0, .int .i64 0, .int .u64 0, .int .u64 0, .int .u64 1, .int .i64 0, .slice none 0 0, .slice none 0 0] 32)).alloc (.cells #[.string ⟨#[]⟩, .string ⟨#[104, 103, 99, 113, 120]⟩, .string ⟨#[104, 103, 99, 113, 112, 100]⟩, .string ⟨#[104, 103, 99, 113, 112, 120]⟩, .string ⟨#[104, 103, 112]⟩, .string ⟨#[104, 103, 112]⟩, .string ⟨#[104, 103, 118]⟩, .string ⟨#[98, 115]⟩, .string ⟨#[98, 115, 120]⟩, .string ⟨#[98, 115, 120]⟩, .string ⟨#[98, 115]⟩, .string ⟨#[98]⟩, .string ⟨#[115, 120]⟩, .string ⟨#[115]⟩, .string ⟨#[99, 113, 112]⟩, .string ⟨#[104, 103, 99, 113, 112, 100, 120]⟩, .string ⟨#[104, 103, 99, 113, 112, 100]⟩, .string ⟨#[99, 113, 112, 100]⟩, .string ⟨#[98, 115]⟩] 9)) w1.heap.size 32 (MC { kind := kd, pos := 1 } {}) := by exact (Blk.new w1 32 (MC { kind := kd, pos := 1 } {})).alloc _
    have MM : Mods Nil w ((w1.alloc (.cells #[.int .i64 kd, .int .u64 0, .int .u64 0, .int .i64 0, .int .i64 0, .int .u64 0, .int .u64 0, .int .u64 1, .int .i64 0, .slice none 0 0, .slice none 0 0] 32)).alloc (.cells #[.string ⟨#[]⟩, .string ⟨#[104, 103, 99, 113, 120]⟩, .string ⟨#[104, 103, 99, 113, 112, 100]⟩, .string ⟨#[104, 103, 99, 113, 112, 120]⟩, .string ⟨#[104, 103, 112]⟩, .string ⟨#[104, 103, 112]⟩, .string ⟨#[104, 103, 118]⟩, .string ⟨#[98, 115]⟩, .string ⟨#[98, 115, 120]⟩, .string ⟨#[98, 115, 120]⟩, .string ⟨#[98, 115]⟩, .string ⟨#[98]⟩, .string ⟨#[115, 120]⟩, .string ⟨#[115]⟩, .string ⟨#[99, 113, 112]⟩, .string ⟨#[104, 103, 99, 113, 112, 100, 120]⟩, .string ⟨#[104, 103, 99, 113, 112, 100]⟩, .string ⟨#[99, 113, 112, 100]⟩, .string ⟨#[98, 115]⟩] 9)) := M1.out.alloc _ |>.alloc _
    have TT : Tab ((w1.alloc (.cells #[.int .i64 kd, .int .u64 0, .int .u64 0, .int .i64 0, .int .i64 0, .int .u64 0, .int .u64 0, .int .u64 1, .int .i64 0, .slice none 0 0, .slice none 0 0] 32)).alloc (.cells #[.string ⟨#[]⟩, .string ⟨#[104, 103, 99, 113, 120]⟩, .string ⟨#[104, 103, 99, 113, 112, 100]⟩, .string ⟨#[104, 103, 99, 113, 112, 120]⟩, .string ⟨#[104, 103, 112]⟩, .string ⟨#[104, 103, 112]⟩, .string ⟨#[104, 103, 118]⟩, .string ⟨#[98, 115]⟩, .string ⟨#[98, 115, 120]⟩, .string ⟨#[98, 115, 120]⟩, .string ⟨#[98, 115]⟩, .string ⟨#[98]⟩, .string ⟨#[115, 120]⟩, .string ⟨#[115]⟩, .string ⟨#[99, 113, 112]⟩, .string ⟨#[104, 103, 99, 113, 112, 100, 120]⟩, .string ⟨#[104, 103, 99, 113, 112, 100]⟩, .string ⟨#[99, 113, 112, 100]⟩, .string ⟨#[98, 115]⟩] 9)) := HT1.out.mods ((Mods.refl Nil _).alloc _ |>.alloc _) (fun h => h)
    obtain ⟨W2, hW2⟩ : ∃ W2, ((w1.alloc (.cells #[.int .i64 kd, .int .u64 0, .int .u64 0, .int .i64 0, .int .i64 0, .int .u64 0, .int .u64 0, .int .u64 1, .int .i64 0, .slice none 0 0, .slice none 0 0] 32)).alloc (.cells #[.string ⟨#[]⟩, .string ⟨#[104, 103, 99, 113, 120]⟩, .string ⟨#[104, 103, 99, 113, 112, 100]⟩, .string ⟨#[104, 103, 99, 113, 112, 120]⟩, .string ⟨#[104, 103, 112]⟩, .string ⟨#[104, 103, 112]⟩, .string ⟨#[104, 103, 118]⟩, .string ⟨#[98, 115]⟩, .string ⟨#[98, 115, 120]⟩, .string ⟨#[98, 115, 120]⟩, .string ⟨#[98, 115]⟩, .string ⟨#[98]⟩, .string ⟨#[115, 120]⟩, .string ⟨#[115]⟩, .string ⟨#[99, 113, 112]⟩, .string ⟨#[104, 103, 99, 113, 112, 100, 120]⟩, .string ⟨#[104, 103, 99, 113, 112, 100]⟩, .string ⟨#[99, 113, 112, 100]⟩, .string ⟨#[98, 115]⟩] 9)) = W2 := ⟨_, rfl⟩
    rw [hW2] at BB MM TT ⊢
    have HBB := Lib.hid BB
    have HMM := Lib.hid MM
    have HTW := Lib.hid TT
    clear hW2 BB MM TT
    go_loopw [10, 11] (fun s i wr => i = .int .i64 0 ∧ s = .bool false ∧ Mods Nil W2 wr) (fun _ _ _ => 0)
    case atStart => exact ⟨rfl, rfl, Mods.refl _ _⟩
    case round =>
      obtain ⟨rfl, rfl, hmo⟩ := hrel
      have HMO := Lib.hid (HMM.out.trans hmo)
      obtain ⟨d0, d1, d2, d3, d4, d5, d6, d7, d8, d9, d10⟩ := (HBB.out.mods hmo (fun h => h)).mc
      dsimp only [List.length_nil, List.length_cons] at d0 d1 d2 d3 d4 d5 d6 d7 d8 d9 d10
      go_wp2_with (go_at_call 17; refine (check_any (m := { kind := kd, pos := 1 }) (L := {}) HOK.out (HTW.out.mods hmo (fun h => h))).mono ?_; rintro e w3 ⟨rfl, m3⟩; rw [HCK.out]; have M3 := Lib.hid (HMO.out.trans m3); clear m3)
      go_ret
      exact ⟨rfl, M3.out⟩

set_option maxHeartbeats 8000000 in
theorem msgKinds_hi_6 (w : World) (hT : Tab w) (kd : Int) (hkd : -9223372036854775808 ≤ kd ∧ kd ≤ 9223372036854775807) (d : Nat) (hd : d < 256) (hdk : d % 10 = 6) (h1 : 18 < kd) :
    Calls Tryd.prog 6 #[.int .i64 kd, .int .u8 d] w fun e w' => e = .returned (.bool true) ∧ Mods Nil w w' := by
    have HT := Lib.hid hT
    have hk : isK kd = false := by simp [isK]; omega
    have h2 : 1 ≤ kd := by omega
    clear hT
    have hok : PM.ok { kind := kd, pos := 1 } := by constructor <;> simp <;> omega
    have HOK := Lib.hid hok
    have hmod : (d : Int) % 10 = 6 := by omega
    have hmod2 : (d : Int).tmod 10 = 6 := by rw [Int.tmod_eq_emod_of_nonneg (by omega)]; omega
    have HCK : Hid (chk { kind := kd, pos := 1 } = 1) := chk_nokind hk
    clear hok hk
    go_enter Tryd.func6, Tryd.ntmps6
    go_wp2_with (go_at_call 9; refine (awake4_any _ HT.out).mono ?_; rintro e w1 ⟨rfl, m1⟩; have M1 := Lib.hid m1; have HT1 := Lib.hid (HT.out.mods m1 (fun h => h)); clear m1)
    have BB : Blk ((w1.alloc (.cells #[.int .i64 kd, .int .u64 0, .int .u64 0, .int .i64 0, .int .i64 0, .int .u64 0, .int .u64 0, .int .u64 1, .int .i64 0, .slice none 0 0, .slice none 0 0] 32)).alloc (.cells #[.string ⟨#[]⟩, .string ⟨#[104, 103, 99, 113, 120]⟩, .string ⟨#[104, 103, 99, 113, 112, 100]⟩, .string ⟨#[104, 103, 99, 113, 112, 120]⟩, .string ⟨#[104, 103, 112]⟩, .string ⟨#[104, 103, 112]⟩, .string ⟨#[104, 103, 118]⟩, .string ⟨#[98, 115]⟩, .string ⟨#[98, 115, 120]⟩, .string ⟨#[98, 115, 120]⟩, .string ⟨#[98, 115]⟩, .string ⟨#[98]⟩, .string ⟨#[115, 120]⟩, .string ⟨#[115]⟩, .string ⟨#[99, 113, 112]⟩, .string ⟨#[104, 103, 99, 113, 112, 100, 120]⟩, .string ⟨#[104, 103, 99, 113, 112, 100]⟩, .string ⟨#[99, 113, 112, 100]⟩, .string ⟨#[98, 115]⟩] 9)) w1.heap.size 32 (MC { kind := kd, pos := 1 } {}) := by exact (Blk.new w1 32 (MC { kind := kd, pos := 1 } {})).alloc _
    have MM : Mods Nil w ((w1.alloc (.cells #[.int .i64 kd, .int .u64 0, .int .u64 0, .int .i64 0, .int .i64 0, .int .u64 0, .int .u64 0, .int .u64 1, .int .i64 0, .slice none 0 0, .slice none 0 0] 32)).alloc (.cells #[.string ⟨#[]⟩, .string ⟨#[104, 103, 99, 113, 120]⟩, .string ⟨#[104, 103, 99, 113, 112, 100]⟩, .string ⟨#[104, 103, 99, 113, 112, 120]⟩, .string ⟨#[104, 103, 112]⟩, .string ⟨#[104, 103, 112]⟩, .string ⟨#[104, 103, 118]⟩, .string ⟨#[98, 115]⟩, .string ⟨#[98, 115, 120]⟩, .string ⟨#[98, 115, 120]⟩, .string ⟨#[98, 115]⟩, .string ⟨#[98]⟩, .string ⟨#[115, 120]⟩, .string ⟨#[115]⟩, .string ⟨#[99, 113, 112]⟩, .string ⟨#[104, 103, 99, 113, 112, 100, 120]⟩, .string ⟨#[104, 103, 99, 113, 112, 100]⟩, .string ⟨#[99, 113, 112, 100]⟩, .string ⟨#[98, 115]⟩] 9)) := M1.out.alloc _ |>.alloc _
    have TT : Tab ((w1.alloc (.cells #[.int .i64 kd, .int .u64 0, .int .u64 0, .int .i64 0, .int .i64 0, .int .u64 0, .int .u64 0, .int .u64 1, .int .i64 0, .slice none 0 0, .slice none 0 0] 32)).alloc (.cells #[.string ⟨#[]⟩, .string ⟨#[104, 103, 99, 113, 120]⟩, .string ⟨#[104, 103, 99, 113, 112, 100]⟩, .string ⟨#[104, 103, 99, 113, 112, 120]⟩, .string ⟨#[104, 103, 112]⟩, .string ⟨#[104, 103, 112]⟩, .string ⟨#[104, 103, 118]⟩, .string ⟨#[98, 115]⟩, .string ⟨#[98, 115, 120]⟩, .string ⟨#[98, 115, 120]⟩, .string ⟨#[98, 115]⟩, .string ⟨#[98]⟩, .string ⟨#[115, 120]⟩, .string ⟨#[115]⟩, .string ⟨#[99, 113, 112]⟩, .string ⟨#[104, 103, 99, 113, 112, 100, 120]⟩, .string ⟨#[104, 103, 99, 113, 112, 100]⟩, .string ⟨#[99, 113, 112, 100]⟩, .string ⟨#[98, 115]⟩] 9)) := HT1.out.mods ((Mods.refl Nil _).alloc _ |>.alloc _) (fun h => h)
    obtain ⟨W2, hW2⟩ : ∃ W2, ((w1.alloc (.cells #[.int .i64 kd, .int .u64 0, .int .u64 0, .int .i64 0, .int .i64 0, .int .u64 0, .int .u64 0, .int .u64 1, .int .i64 0, .slice none 0 0, .slice none 0 0] 32)).alloc (.cells #[.string ⟨#[]⟩, .string ⟨#[104, 103, 99, 113, 120]⟩, .string ⟨#[104, 103, 99, 113, 112, 100]⟩, .string ⟨#[104, 103, 99, 113, 112, 120]⟩, .string ⟨#[104, 103, 112]⟩, .string ⟨#[104, 103, 112]⟩, .string ⟨#[104, 103, 118]⟩, .string ⟨#[98, 115]⟩, .string ⟨#[98, 115, 120]⟩, .string ⟨#[98, 115, 120]⟩, .string ⟨#[98, 115]⟩, .string ⟨#[98]⟩, .string ⟨#[115, 120]⟩, .string ⟨#[115]⟩, .string ⟨#[99, 113, 112]⟩, .string ⟨#[104, 103, 99, 113, 112, 100, 120]⟩, .string ⟨#[104, 103, 99, 113, 112, 100]⟩, .string ⟨#[99, 113, 112, 100]⟩, .string ⟨#[98, 115]⟩] 9)) = W2 := ⟨_, rfl⟩
    rw [hW2] at BB MM TT ⊢
    have HBB := Lib.hid BB
    have HMM := Lib.hid MM
    have HTW := Lib.hid TT
    clear hW2 BB MM TT
    go_loopw [10, 11] (fun s i wr => i = .int .i64 0 ∧ s = .bool false ∧ Mods Nil W2 wr) (fun _ _ _ => 0)
    case atStart => exact ⟨rfl, rfl, Mods.refl _ _⟩
    case round =>
      obtain ⟨rfl, rfl, hmo⟩ := hrel
      have HMO := Lib.hid (HMM.out.trans hmo)
      obtain ⟨d0, d1, d2, d3, d4, d5, d6, d7, d8, d9, d10⟩ := (HBB.out.mods hmo (fun h => h)).mc
      dsimp only [List.length_nil, List.length_cons] at d0 d1 d2 d3 d4 d5 d6 d7 d8 d9 d10
      go_wp2_with (go_at_call 17; refine (check_any (m := { kind := kd, pos := 1 }) (L := {}) HOK.out (HTW.out.mods hmo (fun h => h))).mono ?_; rintro e w3 ⟨rfl, m3⟩; rw [HCK.out]; have M3 := Lib.hid (HMO.out.trans m3); clear m3)
      go_ret
      exact ⟨rfl, M3.out⟩

set_option maxHeartbeats 8000000 in
theorem msgKinds_lo_7 (w : World) (hT : Tab w) (kd : Int) (hkd : -9223372036854775808 ≤ kd ∧ kd ≤ 9223372036854775807) (d : Nat) (hd : d < 256) (hdk : d % 10 = 7) (h1 : kd < 1) :
    Calls Tryd.prog 6 #[.int .i64 kd, .int .u8 d] w fun e w' => e = .returned (.bool true) ∧ Mods Nil w w' := by
    have HT := Lib.hid hT
    have hk : isK kd = false := by simp [isK]; omega

    clear hT
    have hok : PM.ok { kind := kd, code := 1 } := by constructor <;> simp <;> omega
    have HOK := Lib.hid hok
    have hmod : (d : Int) % 10 = 7 := by omega
    have hmod2 : (d : Int).tmod 10 = 7 := by rw [Int.tmod_eq_emod_of_nonneg (by omega)]; omega
    have HCK : Hid (chk { kind := kd, code := 1 } = 1) := chk_nokind hk
    clear hok hk
    go_enter Tryd.func6, Tryd.ntmps6
    go_wp2_with (go_at_call 9; refine (awake4_any _ HT.out).mono ?_; rintro e w1 ⟨rfl, m1⟩; have M1 := Lib.hid m1; have HT1 := Lib.hid (HT.out.mods m1 (fun h => h)); clear m1)
    have BB : Blk ((w1.alloc (.cells #[.int .i64 kd, .int .u64 0, .int .u64 0, .int .i64 0, .int .i64 0, .int .u64 0, .int .u64 0, .int .u64 0, .int .i64 1, .slice none 0 0, .slice none 0 0] 32)).alloc (.cells #[.string ⟨#[]⟩, .string ⟨#[104, 103, 99, 113, 120]⟩, .string ⟨#[104, 103, 99, 113, 112, 100]⟩, .string ⟨#[104, 103, 99, 113, 112, 120]⟩, .string ⟨#[104, 103, 112]⟩, .string ⟨#[104, 103, 112]⟩, .string ⟨#[104, 103, 118]⟩, .string ⟨#[98, 115]⟩, .string ⟨#[98, 115, 120]⟩, .string ⟨#[98, 115, 120]⟩, .string ⟨#[98, 115]⟩, .string ⟨#[98]⟩, .string ⟨#[115, 120]⟩, .string ⟨#[115]⟩, .string ⟨#[99, 113, 112]⟩, .string ⟨#[104, 103, 99, 113, 112, 100, 120]⟩, .string ⟨#[104, 103, 99, 113, 112, 100]⟩, .string ⟨#[99, 113, 112, 100]⟩, .string ⟨#[98, 115]⟩] 9)) w1.heap.size 32 (MC { kind := kd, code := 1 } {}) := by exact (Blk.new w1 32 (MC { kind := kd, code := 1 } {})).alloc _
    have MM : Mods Nil w ((w1.alloc (.cells #[.int .i64 kd, .int .u64 0, .int .u64 0, .int .i64 0, .int .i64 0, .int .u64 0, .int .u64 0, .int .u64 0, .int .i64 1, .slice none 0 0, .slice none 0 0] 32)).alloc (.cells #[.string ⟨#[]⟩, .string ⟨#[104, 103, 99, 113, 120]⟩, .string ⟨#[104, 103, 99, 113, 112, 100]⟩, .string ⟨#[104, 103, 99, 113, 112, 120]⟩, .string ⟨#[104, 103, 112]⟩, .string ⟨#[104, 103, 112]⟩, .string ⟨#[104, 103, 118]⟩, .string ⟨#[98, 115]⟩, .string ⟨#[98, 115, 120]⟩, .string ⟨#[98, 115, 120]⟩, .string ⟨#[98, 115]⟩, .string ⟨#[98]⟩, .string ⟨#[115, 120]⟩, .string ⟨#[115]⟩, .string ⟨#[99, 113, 112]⟩, .string ⟨#[104, 103, 99, 113, 112, 100, 120]⟩, .string ⟨#[104, 103, 99, 113, 112, 100]⟩, .string ⟨#[99, 113, 112, 100]⟩, .string ⟨#[98, 115]⟩] 9)) := M1.out.alloc _ |>.alloc _
    have TT : Tab ((w1.alloc (.cells #[.int .i64 kd, .int .u64 0, .int .u64 0, .int .i64 0, .int .i64 0, .int .u64 0, .int .u64 0, .int .u64 0, .int .i64 1, .slice none 0 0, .slice none 0 0] 32)).alloc (.cells #[.string ⟨#[]⟩, .string ⟨#[104, 103, 99, 113, 120]⟩, .string ⟨#[104, 103, 99, 113, 112, 100]⟩, .string ⟨#[104, 103, 99, 113, 112, 120]⟩, .string ⟨#[104, 103, 112]⟩, .string ⟨#[104, 103, 112]⟩, .string ⟨#[104, 103, 118]⟩, .string ⟨#[98, 115]⟩, .string ⟨#[98, 115, 120]⟩, .string ⟨#[98, 115, 120]⟩, .string ⟨#[98, 115]⟩, .string ⟨#[98]⟩, .string ⟨#[115, 120]⟩, .string ⟨#[115]⟩, .string ⟨#[99, 113, 112]⟩, .string ⟨#[104, 103, 99, 113, 112, 100, 120]⟩, .string ⟨#[104, 103, 99, 113, 112, 100]⟩, .string ⟨#[99, 113, 112, 100]⟩, .string ⟨#[98, 115]⟩] 9)) := HT1.out.mods ((Mods.refl Nil _).alloc _ |>.alloc _) (fun h => h)
    obtain ⟨W2, hW2⟩ : ∃ W2, ((w1.alloc (.cells #[.int .i64 kd, .int .u64 0, .int .u64 0, .int .i64 0, .int .i64 0, .int .u64 0, .int .u64 0, .int .u64 0, .int .i64 1, .slice none 0 0, .slice none 0 0] 32)).alloc (.cells #[.string ⟨#[]⟩, .string ⟨#[104, 103, 99, 113, 120]⟩, .string ⟨#[104, 103, 99, 113, 112, 100]⟩, .string ⟨#[104, 103, 99, 113, 112, 120]⟩, .string ⟨#[104, 103, 112]⟩, .string ⟨#[104, 103, 112]⟩, .string ⟨#[104, 103, 118]⟩, .string ⟨#[98, 115]⟩, .string ⟨#[98, 115, 120]⟩, .string ⟨#[98, 115, 120]⟩, .string ⟨#[98, 115]⟩, .string ⟨#[98]⟩, .string ⟨#[115, 120]⟩, .string ⟨#[115]⟩, .string ⟨#[99, 113, 112]⟩, .string ⟨#[104, 103, 99, 113, 112, 100, 120]⟩, .string ⟨#[104, 103, 99, 113, 112, 100]⟩, .string ⟨#[99, 113, 112, 100]⟩, .string ⟨#[98, 115]⟩] 9)) = W2 := ⟨_, rfl⟩
    rw [hW2] at BB MM TT ⊢
    have HBB := Lib.hid BB
    have HMM := Lib.hid MM
    have HTW := Lib.hid TT
    clear hW2 BB MM TT
    go_loopw [10, 11] (fun s i wr => i = .int .i64 0 ∧ s = .bool false ∧ Mods Nil W2 wr) (fun _ _ _ => 0)
    case atStart => exact ⟨rfl, rfl, Mods.refl _ _⟩
    case round =>
      obtain ⟨rfl, rfl, hmo⟩ := hrel
      have HMO := Lib.hid (HMM.out.trans hmo)
      obtain ⟨d0, d1, d2, d3, d4, d5, d6, d7, d8, d9, d10⟩ := (HBB.out.mods hmo (fun h => h)).mc
      dsimp only [List.length_nil, List.length_cons] at d0 d1 d2 d3 d4 d5 d6 d7 d8 d9 d10
      go_wp2_with (go_at_call 17; refine (check_any (m := { kind := kd, code := 1 }) (L := {}) HOK.out (HTW.out.mods hmo (fun h => h))).mono ?_; rintro e w3 ⟨rfl, m3⟩; rw [HCK.out]; have M3 := Lib.hid (HMO.out.trans m3); clear m3)
      go_ret
      exact ⟨rfl, M3.out⟩

set_option maxHeartbeats 8000000 in
theorem msgKinds_hi_7 (w : World) (hT : Tab w) (kd : Int) (hkd : -9223372036854775808 ≤ kd ∧ kd ≤ 9223372036854775807) (d : Nat) (hd : d < 256) (hdk : d % 10 = 7) (h1 : 18 < kd) :
    Calls Tryd.prog 6 #[.int .i64 kd, .int .u8 d] w fun e w' => e = .returned (.bool true) ∧ Mods Nil w w' := by
    have HT := Lib.hid hT
    have hk : isK kd = false := by simp [isK]; omega
    have h2 : 1 ≤ kd := by omega
    clear hT
    have hok : PM.ok { kind := kd, code := 1 } := by constructor <;> simp <;> omega
    have HOK := Lib.hid hok
    have hmod : (d : Int) % 10 = 7 := by omega
    have hmod2 : (d : Int).tmod 10 = 7 := by rw [Int.tmod_eq_emod_of_nonneg (by omega)]; omega
    have HCK : Hid (chk { kind := kd, code := 1 } = 1) := chk_nokind hk
    clear hok hk
    go_enter Tryd.func6, Tryd.ntmps6
    go_wp2_with (go_at_call 9; refine (awake4_any _ HT.out).mono ?_; rintro e w1 ⟨rfl, m1⟩; have M1 := Lib.hid m1; have HT1 := Lib.hid (HT.out.mods m1 (fun h => h)); clear m1)
    have BB : Blk ((w1.alloc (.cells #[.int .i64 kd, .int .u64 0, .int .u64 0, .int .i64 0, .int .i64 0, .int .u64 0, .int .u64 0, .int .u64 0, .int .i64 1, .slice none 0 0, .slice none 0 0] 32)).alloc (.cells #[.string ⟨#[]⟩, .string ⟨#[104, 103, 99, 113, 120]⟩, .string ⟨#[104, 103, 99, 113, 112, 100]⟩, .string ⟨#[104, 103, 99, 113, 112, 120]⟩, .string ⟨#[104, 103, 112]⟩, .string ⟨#[104, 103, 112]⟩, .string ⟨#[104, 103, 118]⟩, .string ⟨#[98, 115]⟩, .string ⟨#[98, 115, 120]⟩, .string ⟨#[98, 115, 120]⟩, .string ⟨#[98, 115]⟩, .string ⟨#[98]⟩, .string ⟨#[115, 120]⟩, .string ⟨#[115]⟩, .string ⟨#[99, 113, 112]⟩, .string ⟨#[104, 103, 99, 113, 112, 100, 120]⟩, .string ⟨#[104, 103, 99, 113, 112, 100]⟩, .string ⟨#[99, 113, 112, 100]⟩, .string ⟨#[98, 115]⟩] 9)) w1.heap.size 32 (MC { kind := kd, code := 1 } {}) := by exact (Blk.new w1 32 (MC { kind := kd, code := 1 } {})).alloc _
    have MM : Mods Nil w ((w1.alloc (.cells #[.int .i64 kd, .int .u64 0, .int .u64 0, .int .i64 0, .int .i64 0, .int .u64 0, .int .u64 0, .int .u64 0, .int .i64 1, .slice none 0 0, .slice none 0 0] 32)).alloc (.cells #[.string ⟨#[]⟩, .string ⟨#[104, 103, 99, 113, 120]⟩, .string ⟨#[104, 103, 99, 113, 112, 100]⟩, .string ⟨#[104, 103, 99, 113, 112, 120]⟩, .string ⟨#[104, 103, 112]⟩, .string ⟨#[104, 103, 112]⟩, .string ⟨#[104, 103, 118]⟩, .string ⟨#[98, 115]⟩, .string ⟨#[98, 115, 120]⟩, .string ⟨#[98, 115, 120]⟩, .string ⟨#[98, 115]⟩, .string ⟨#[98]⟩, .string ⟨#[115, 120]⟩, .string ⟨#[115]⟩, .string ⟨#[99, 113, 112]⟩, .string ⟨#[104, 103, 99, 113, 112, 100, 120]⟩, .string ⟨#[104, 103, 99, 113, 112, 100]⟩, .string ⟨#[99, 113, 112, 100]⟩, .string ⟨#[98, 115]⟩] 9)) := M1.out.alloc _ |>.alloc _
    have TT : Tab ((w1.alloc (.cells #[.int .i64 kd, .int .u64 0, .int .u64 0, .int .i64 0, .int .i64 0, .int .u64 0, .int .u64 0, .int .u64 0, .int .i64 1, .slice none 0 0, .slice none 0 0] 32)).alloc (.cells #[.string ⟨#[]⟩, .string ⟨#[104, 103, 99, 113, 120]⟩, .string ⟨#[104, 103, 99, 113, 112, 100]⟩, .string ⟨#[104, 103, 99, 113, 112, 120]⟩, .string ⟨#[104, 103, 112]⟩, .string ⟨#[104, 103, 112]⟩, .string ⟨#[104, 103, 118]⟩, .string ⟨#[98, 115]⟩, .string ⟨#[98, 115, 120]⟩, .string ⟨#[98, 115, 120]⟩, .string ⟨#[98, 115]⟩, .string ⟨#[98]⟩, .string ⟨#[115, 120]⟩, .string ⟨#[115]⟩, .string ⟨#[99, 113, 112]⟩, .string ⟨#[104, 103, 99, 113, 112, 100, 120]⟩, .string ⟨#[104, 103, 99, 113, 112, 100]⟩, .string ⟨#[99, 113, 112, 100]⟩, .string ⟨#[98, 115]⟩] 9)) := HT1.out.mods ((Mods.refl Nil _).alloc _ |>.alloc _) (fun h => h)
    obtain ⟨W2, hW2⟩ : ∃ W2, ((w1.alloc (.cells #[.int .i64 kd, .int .u64 0, .int .u64 0, .int .i64 0, .int .i64 0, .int .u64 0, .int .u64 0, .int .u64 0, .int .i64 1, .slice none 0 0, .slice none 0 0] 32)).alloc (.cells #[.string ⟨#[]⟩, .string ⟨#[104, 103, 99, 113, 120]⟩, .string ⟨#[104, 103, 99, 113, 112, 100]⟩, .string ⟨#[104, 103, 99, 113, 112, 120]⟩, .string ⟨#[104, 103, 112]⟩, .string ⟨#[104, 103, 112]⟩, .string ⟨#[104, 103, 118]⟩, .string ⟨#[98, 115]⟩, .string ⟨#[98, 115, 120]⟩, .string ⟨#[98, 115, 120]⟩, .string ⟨#[98, 115]⟩, .string ⟨#[98]⟩, .string ⟨#[115, 120]⟩, .string ⟨#[115]⟩, .string ⟨#[99, 113, 112]⟩, .string ⟨#[104, 103, 99, 113, 112, 100, 120]⟩, .string ⟨#[104, 103, 99, 113, 112, 100]⟩, .string ⟨#[99, 113, 112, 100]⟩, .string ⟨#[98, 115]⟩] 9)) = W2 := ⟨_, rfl⟩
    rw [hW2] at BB MM TT ⊢
    have HBB := Lib.hid BB
    have HMM := Lib.hid MM
    have HTW := Lib.hid TT
    clear hW2 BB MM TT
    go_loopw [10, 11] (fun s i wr => i = .int .i64 0 ∧ s = .bool false ∧ Mods Nil W2 wr) (fun _ _ _ => 0)
    case atStart => exact ⟨rfl, rfl, Mods.refl _ _⟩
    case round =>
      obtain ⟨rfl, rfl, hmo⟩ := hrel
      have HMO := Lib.hid (HMM.out.trans hmo)
      obtain ⟨d0, d1, d2, d3, d4, d5, d6, d7, d8, d9, d10⟩ := (HBB.out.mods hmo (fun h => h)).mc
      dsimp only [List.length_nil, List.length_cons] at d0 d1 d2 d3 d4 d5 d6 d7 d8 d9 d10
      go_wp2_with (go_at_call 17; refine (check_any (m := { kind := kd, code := 1 }) (L := {}) HOK.out (HTW.out.mods hmo (fun h => h))).mono ?_; rintro e w3 ⟨rfl, m3⟩; rw [HCK.out]; have M3 := Lib.hid (HMO.out.trans m3); clear m3)
      go_ret
      exact ⟨rfl, M3.out⟩

set_option maxHeartbeats 8000000 in
theorem msgKinds_lo_8 (w : World) (hT : Tab w) (kd : Int) (hkd : -9223372036854775808 ≤ kd ∧ kd ≤ 9223372036854775807) (d : Nat) (hd : d < 256) (hdk : d % 10 = 8) (h1 : kd < 1) :
    Calls Tryd.prog 6 #[.int .i64 kd, .int .u8 d] w fun e w' => e = .returned (.bool true) ∧ Mods Nil w w' := by
    have HT := Lib.hid hT
    have hk : isK kd = false := by simp [isK]; omega

    clear hT
    have hok : PM.ok { kind := kd, vec := [0] } := by constructor <;> simp <;> omega
    have HOK := Lib.hid hok
    have hmod : (d : Int) % 10 = 8 := by omega
    have hmod2 : (d : Int).tmod 10 = 8 := by rw [Int.tmod_eq_emod_of_nonneg (by omega)]; omega
    have HCK : Hid (chk { kind := kd, vec := [0] } = 1) := chk_nokind hk
    clear hok hk
    go_enter Tryd.func6, Tryd.ntmps6
    go_wp2_with (go_at_call 9; refine (awake4_any _ HT.out).mono ?_; rintro e w1 ⟨rfl, m1⟩; have M1 := Lib.hid m1; have HT1 := Lib.hid (HT.out.mods m1 (fun h => h)); clear m1)
    have BB : Blk (((w1.alloc (.cells #[.int .i64 kd, .int .u64 0, .int .u64 0, .int .i64 0, .int .i64 0, .int .u64 0, .int .u64 0, .int .u64 0, .int .i64 0, .slice (some ⟨w1.heap.size + 1 + 1, 0, none⟩) 1 1, .slice none 0 0] 32)).alloc (.cells #[.string ⟨#[]⟩, .string ⟨#[104, 103, 99, 113, 120]⟩, .string ⟨#[104, 103, 99, 113, 112, 100]⟩, .string ⟨#[104, 103, 99, 113, 112, 120]⟩, .string ⟨#[104, 103, 112]⟩, .string ⟨#[104, 103, 112]⟩, .string ⟨#[104, 103, 118]⟩, .string ⟨#[98, 115]⟩, .string ⟨#[98, 115, 120]⟩, .string ⟨#[98, 115, 120]⟩, .string ⟨#[98, 115]⟩, .string ⟨#[98]⟩, .string ⟨#[115, 120]⟩, .string ⟨#[115]⟩, .string ⟨#[99, 113, 112]⟩, .string ⟨#[104, 103, 99, 113, 112, 100, 120]⟩, .string ⟨#[104, 103, 99, 113, 112, 100]⟩, .string ⟨#[99, 113, 112, 100]⟩, .string ⟨#[98, 115]⟩] 9)).alloc (.cells #[.int .u64 0] 29)) w1.heap.size 32 (MC { kind := kd, vec := [0] } { Av := (some ⟨w1.heap.size + 1 + 1, 0, none⟩), cv := 1 }) := by exact (Blk.new w1 32 (MC { kind := kd, vec := [0] } { Av := (some ⟨w1.heap.size + 1 + 1, 0, none⟩), cv := 1 })).alloc _ |>.alloc _
    have MM : Mods Nil w (((w1.alloc (.cells #[.int .i64 kd, .int .u64 0, .int .u64 0, .int .i64 0, .int .i64 0, .int .u64 0, .int .u64 0, .int .u64 0, .int .i64 0, .slice (some ⟨w1.heap.size + 1 + 1, 0, none⟩) 1 1, .slice none 0 0] 32)).alloc (.cells #[.string ⟨#[]⟩, .string ⟨#[104, 103, 99, 113, 120]⟩, .string ⟨#[104, 103, 99, 113, 112, 100]⟩, .string ⟨#[104, 103, 99, 113, 112, 120]⟩, .string ⟨#[104, 103, 112]⟩, .string ⟨#[104, 103, 112]⟩, .string ⟨#[104, 103, 118]⟩, .string ⟨#[98, 115]⟩, .string ⟨#[98, 115, 120]⟩, .string ⟨#[98, 115, 120]⟩, .string ⟨#[98, 115]⟩, .string ⟨#[98]⟩, .string ⟨#[115, 120]⟩, .string ⟨#[115]⟩, .string ⟨#[99, 113, 112]⟩, .string ⟨#[104, 103, 99, 113, 112, 100, 120]⟩, .string ⟨#[104, 103, 99, 113, 112, 100]⟩, .string ⟨#[99, 113, 112, 100]⟩, .string ⟨#[98, 115]⟩] 9)).alloc (.cells #[.int .u64 0] 29)) := M1.out.alloc _ |>.alloc _ |>.alloc _
    have TT : Tab (((w1.alloc (.cells #[.int .i64 kd, .int .u64 0, .int .u64 0, .int .i64 0, .int .i64 0, .int .u64 0, .int .u64 0, .int .u64 0, .int .i64 0, .slice (some ⟨w1.heap.size + 1 + 1, 0, none⟩) 1 1, .slice none 0 0] 32)).alloc (.cells #[.string ⟨#[]⟩, .string ⟨#[104, 103, 99, 113, 120]⟩, .string ⟨#[104, 103, 99, 113, 112, 100]⟩, .string ⟨#[104, 103, 99, 113, 112, 120]⟩, .string ⟨#[104, 103, 112]⟩, .string ⟨#[104, 103, 112]⟩, .string ⟨#[104, 103, 118]⟩, .string ⟨#[98, 115]⟩, .string ⟨#[98, 115, 120]⟩, .string ⟨#[98, 115, 120]⟩, .string ⟨#[98, 115]⟩, .string ⟨#[98]⟩, .string ⟨#[115, 120]⟩, .string ⟨#[115]⟩, .string ⟨#[99, 113, 112]⟩, .string ⟨#[104, 103, 99, 113, 112, 100, 120]⟩, .string ⟨#[104, 103, 99, 113, 112, 100]⟩, .string ⟨#[99, 113, 112, 100]⟩, .string ⟨#[98, 115]⟩] 9)).alloc (.cells #[.int .u64 0] 29)) := HT1.out.mods ((Mods.refl Nil _).alloc _ |>.alloc _ |>.alloc _) (fun h => h)
    obtain ⟨W2, hW2⟩ : ∃ W2, (((w1.alloc (.cells #[.int .i64 kd, .int .u64 0, .int .u64 0, .int .i64 0, .int .i64 0, .int .u64 0, .int .u64 0, .int .u64 0, .int .i64 0, .slice (some ⟨w1.heap.size + 1 + 1, 0, none⟩) 1 1, .slice none 0 0] 32)).alloc (.cells #[.string ⟨#[]⟩, .string ⟨#[104, 103, 99, 113, 120]⟩, .string ⟨#[104, 103, 99, 113, 112, 100]⟩, .string ⟨#[104, 103, 99, 113, 112, 120]⟩, .string ⟨#[104, 103, 112]⟩, .string ⟨#[104, 103, 112]⟩, .string ⟨#[104, 103, 118]⟩, .string ⟨#[98, 115]⟩, .string ⟨#[98, 115, 120]⟩, .string ⟨#[98, 115, 120]⟩, .string ⟨#[98, 115]⟩, .string ⟨#[98]⟩, .string ⟨#[115, 120]⟩, .string ⟨#[115]⟩, .string ⟨#[99, 113, 112]⟩, .string ⟨#[104, 103, 99, 113, 112, 100, 120]⟩, .string ⟨#[104, 103, 99, 113, 112, 100]⟩, .string ⟨#[99, 113, 112, 100]⟩, .string ⟨#[98, 115]⟩] 9)).alloc (.cells #[.int .u64 0] 29)) = W2 := ⟨_, rfl⟩
    rw [hW2] at BB MM TT ⊢
    have HBB := Lib.hid BB
    have HMM := Lib.hid MM
    have HTW := Lib.hid TT
    clear hW2 BB MM TT
    go_loopw [10, 11] (fun s i wr => i = .int .i64 0 ∧ s = .bool false ∧ Mods Nil W2 wr) (fun _ _ _ => 0)
    case atStart => exact ⟨rfl, rfl, Mods.refl _ _⟩
    case round =>
      obtain ⟨rfl, rfl, hmo⟩ := hrel
      have HMO := Lib.hid (HMM.out.trans hmo)
      obtain ⟨d0, d1, d2, d3, d4, d5, d6, d7, d8, d9, d10⟩ := (HBB.out.mods hmo (fun h => h)).mc
      dsimp only [List.length_nil, List.length_cons] at d0 d1 d2 d3 d4 d5 d6 d7 d8 d9 d10
      go_wp2_with (go_at_call 17; refine (check_any (m := { kind := kd, vec := [0] }) (L := { Av := (some ⟨w1.heap.size + 1 + 1, 0, none⟩), cv := 1 }) HOK.out (HTW.out.mods hmo (fun h => h))).mono ?_; rintro e w3 ⟨rfl, m3⟩; rw [HCK.out]; have M3 := Lib.hid (HMO.out.trans m3); clear m3)
      go_ret
      exact ⟨rfl, M3.out⟩

set_option maxHeartbeats 8000000 in
theorem msgKinds_hi_8 (w : World) (hT : Tab w) (kd : Int) (hkd : -9223372036854775808 ≤ kd ∧ kd ≤ 9223372036854775807) (d : Nat) (hd : d < 256) (hdk : d % 10 = 8) (h1 : 18 < kd) :
    Calls Tryd.prog 6 #[.int .i64 kd, .int .u8 d] w fun e w' => e = .returned (.bool true) ∧ Mods Nil w w' := by
    have HT := Lib.hid hT
    have hk : isK kd = false := by simp [isK]; omega
    have h2 : 1 ≤ kd := by omega
    clear hT
    have hok : PM.ok { kind := kd, vec := [0] } := by constructor <;> simp <;> omega
    have HOK := Lib.hid hok
    have hmod : (d : Int) % 10 = 8 := by omega
    have hmod2 : (d : Int).tmod 10 = 8 := by rw [Int.tmod_eq_emod_of_nonneg (by omega)]; omega
    have HCK : Hid (chk { kind := kd, vec := [0] } = 1) := chk_nokind hk
    clear hok hk
    go_enter Tryd.func6, Tryd.ntmps6
    go_wp2_with (go_at_call 9; refine (awake4_any _ HT.out).mono ?_; rintro e w1 ⟨rfl, m1⟩; have M1 := Lib.hid m1; have HT1 := Lib.hid (HT.out.mods m1 (fun h => h)); clear m1)
    have BB : Blk (((w1.alloc (.cells #[.int .i64 kd, .int .u64 0, .int .u64 0, .int .i64 0, .int .i64 0, .int .u64 0, .int .u64 0, .int .u64 0, .int .i64 0, .slice (some ⟨w1.heap.size + 1 + 1, 0, none⟩) 1 1, .slice none 0 0] 32)).alloc (.cells #[.string ⟨#[]⟩, .string ⟨#[104, 103, 99, 113, 120]⟩, .string ⟨#[104, 103, 99, 113, 112, 100]⟩, .string ⟨#[104, 103, 99, 113, 112, 120]⟩, .string ⟨#[104, 103, 112]⟩, .string ⟨#[104, 103, 112]⟩, .string ⟨#[104, 103, 118]⟩, .string ⟨#[98, 115]⟩, .string ⟨#[98, 115, 120]⟩, .string ⟨#[98, 115, 120]⟩, .string ⟨#[98, 115]⟩, .string ⟨#[98]⟩, .string ⟨#[115, 120]⟩, .string ⟨#[115]⟩, .string ⟨#[99, 113, 112]⟩, .string ⟨#[104, 103, 99, 113, 112, 100, 120]⟩, .string ⟨#[104, 103, 99, 113, 112, 100]⟩, .string ⟨#[99, 113, 112, 100]⟩, .string ⟨#[98, 115]⟩] 9)).alloc (.cells #[.int .u64 0] 29)) w1.heap.size 32 (MC { kind := kd, vec := [0] } { Av := (some ⟨w1.heap.size + 1 + 1, 0, none⟩), cv := 1 }) := by exact (Blk.new w1 32 (MC { kind := kd, vec := [0] } { Av := (some ⟨w1.heap.size + 1 + 1, 0, none⟩), cv := 1 })).alloc _ |>.alloc _
    have MM : Mods Nil w (((w1.alloc (.cells #[.int .i64 kd, .int .u64 0, .int .u64 0, .int .i64 0, .int .i64 0, .int .u64 0, .int .u64 0, .int .u64 0, .int .i64 0, .slice (some ⟨w1.heap.size + 1 + 1, 0, none⟩) 1 1, .slice none 0 0] 32)).alloc (.cells #[.string ⟨#[]⟩, .string ⟨#[104, 103, 99, 113, 120]⟩, .string ⟨#[104, 103, 99, 113, 112, 100]⟩, .string ⟨#[104, 103, 99, 113, 112, 120]⟩, .string ⟨#[104, 103, 112]⟩, .string ⟨#[104, 103, 112]⟩, .string ⟨#[104, 103, 118]⟩, .string ⟨#[98, 115]⟩, .string ⟨#[98, 115, 120]⟩, .string ⟨#[98, 115, 120]⟩, .string ⟨#[98, 115]⟩, .string ⟨#[98]⟩, .string ⟨#[115, 120]⟩, .string ⟨#[115]⟩, .string ⟨#[99, 113, 112]⟩, .string ⟨#[104, 103, 99, 113, 112, 100, 120]⟩, .string ⟨#[104, 103, 99, 113, 112, 100]⟩, .string ⟨#[99, 113, 112, 100]⟩, .string ⟨#[98, 115]⟩] 9)).alloc (.cells #[.int .u64 0] 29)) := M1.out.alloc _ |>.alloc _ |>.alloc _
    have TT : Tab (((w1.alloc (.cells #[.int .i64 kd, .int .u64 0, .int .u64 0, .int .i64 0, .int .i64 0, .int .u64 0, .int .u64 0, .int .u64 0, .int .i64 0, .slice (some ⟨w1.heap.size + 1 + 1, 0, none⟩) 1 1, .slice none 0 0] 32)).alloc (.cells #[.string ⟨#[]⟩, .string ⟨#[104, 103, 99, 113, 120]⟩, .string ⟨#[104, 103, 99, 113, 112, 100]⟩, .string ⟨#[104, 103, 99, 113, 112, 120]⟩, .string ⟨#[104, 103, 112]⟩, .string ⟨#[104, 103, 112]⟩, .string ⟨#[104, 103, 118]⟩, .string ⟨#[98, 115]⟩, .string ⟨#[98, 115, 120]⟩, .string ⟨#[98, 115, 120]⟩, .string ⟨#[98, 115]⟩, .string ⟨#[98]⟩, .string ⟨#[115, 120]⟩, .string ⟨#[115]⟩, .string ⟨#[99, 113, 112]⟩, .string ⟨#[104, 103, 99, 113, 112, 100, 120]⟩, .string ⟨#[104, 103, 99, 113, 112, 100]⟩, .string ⟨#[99, 113, 112, 100]⟩, .string ⟨#[98, 115]⟩] 9)).alloc (.cells #[.int .u64 0] 29)) := HT1.out.mods ((Mods.refl Nil _).alloc _ |>.alloc _ |>.alloc _) (fun h => h)
    obtain ⟨W2, hW2⟩ : ∃ W2, (((w1.alloc (.cells #[.int .i64 kd, .int .u64 0, .int .u64 0, .int .i64 0, .int .i64 0, .int .u64 0, .int .u64 0, .int .u64 0, .int .i64 0, .slice (some ⟨w1.heap.size + 1 + 1, 0, none⟩) 1 1, .slice none 0 0] 32)).alloc (.cells #[.string ⟨#[]⟩, .string ⟨#[104, 103, 99, 113, 120]⟩, .string ⟨#[104, 103, 99, 113, 112, 100]⟩, .string ⟨#[104, 103, 99, 113, 112, 120]⟩, .string ⟨#[104, 103, 112]⟩, .string ⟨#[104, 103, 112]⟩, .string ⟨#[104, 103, 118]⟩, .string ⟨#[98, 115]⟩, .string ⟨#[98, 115, 120]⟩, .string ⟨#[98, 115, 120]⟩, .string ⟨#[98, 115]⟩, .string ⟨#[98]⟩, .string ⟨#[115, 120]⟩, .string ⟨#[115]⟩, .string ⟨#[99, 113, 112]⟩, .string ⟨#[104, 103, 99, 113, 112, 100, 120]⟩, .string ⟨#[104, 103, 99, 113, 112, 100]⟩, .string ⟨#[99, 113, 112, 100]⟩, .string ⟨#[98, 115]⟩] 9)).alloc (.cells #[.int .u64 0] 29)) = W2 := ⟨_, rfl⟩
    rw [hW2] at BB MM TT ⊢
    have HBB := Lib.hid BB
    have HMM := Lib.hid MM
    have HTW := Lib.hid TT
    clear hW2 BB MM TT
    go_loopw [10, 11] (fun s i wr => i = .int .i64 0 ∧ s = .bool false ∧ Mods Nil W2 wr) (fun _ _ _ => 0)
    case atStart => exact ⟨rfl, rfl, Mods.refl _ _⟩
    case round =>
      obtain ⟨rfl, rfl, hmo⟩ := hrel
      have HMO := Lib.hid (HMM.out.trans hmo)
      obtain ⟨d0, d1, d2, d3, d4, d5, d6, d7, d8, d9, d10⟩ := (HBB.out.mods hmo (fun h => h)).mc
      dsimp only [List.length_nil, List.length_cons] at d0 d1 d2 d3 d4 d5 d6 d7 d8 d9 d10
      go_wp2_with (go_at_call 17; refine (check_any (m := { kind := kd, vec := [0] }) (L := { Av := (some ⟨w1.heap.size + 1 + 1, 0, none⟩), cv := 1 }) HOK.out (HTW.out.mods hmo (fun h => h))).mono ?_; rintro e w3 ⟨rfl, m3⟩; rw [HCK.out]; have M3 := Lib.hid (HMO.out.trans m3); clear m3)
      go_ret
      exact ⟨rfl, M3.out⟩

set_option maxHeartbeats 8000000 in
theorem msgKinds_lo_9 (w : World) (hT : Tab w) (kd : Int) (hkd : -9223372036854775808 ≤ kd ∧ kd ≤ 9223372036854775807) (d : Nat) (hd : d < 256) (hdk : d % 10 = 9) (h1 : kd < 1) :
    Calls Tryd.prog 6 #[.int .i64 kd, .int .u8 d] w fun e w' => e = .returned (.bool true) ∧ Mods Nil w w' := by
    have HT := Lib.hid hT
    have hk : isK kd = false := by simp [isK]; omega

    clear hT
    have hok : PM.ok { kind := kd, body := [0] } := by constructor <;> simp <;> omega
    have HOK := Lib.hid hok
    have hmod : (d : Int) % 10 = 9 := by omega
    have hmod2 : (d : Int).tmod 10 = 9 := by rw [Int.tmod_eq_emod_of_nonneg (by omega)]; omega
    have HCK : Hid (chk { kind := kd, body := [0] } = 1) := chk_nokind hk
    clear hok hk
    go_enter Tryd.func6, Tryd.ntmps6
    go_wp2_with (go_at_call 9; refine (awake4_any _ HT.out).mono ?_; rintro e w1 ⟨rfl, m1⟩; have M1 := Lib.hid m1; have HT1 := Lib.hid (HT.out.mods m1 (fun h => h)); clear m1)
    have BB : Blk (((w1.alloc (.cells #[.int .i64 kd, .int .u64 0, .int .u64 0, .int .i64 0, .int .i64 0, .int .u64 0, .int .u64 0, .int .u64 0, .int .i64 0, .slice none 0 0, .slice (some ⟨w1.heap.size + 1 + 1, 0, none⟩) 1 1] 32)).alloc (.cells #[.string ⟨#[]⟩, .string ⟨#[104, 103, 99, 113, 120]⟩, .string ⟨#[104, 103, 99, 113, 112, 100]⟩, .string ⟨#[104, 103, 99, 113, 112, 120]⟩, .string ⟨#[104, 103, 112]⟩, .string ⟨#[104, 103, 112]⟩, .string ⟨#[104, 103, 118]⟩, .string ⟨#[98, 115]⟩, .string ⟨#[98, 115, 120]⟩, .string ⟨#[98, 115, 120]⟩, .string ⟨#[98, 115]⟩, .string ⟨#[98]⟩, .string ⟨#[115, 120]⟩, .string ⟨#[115]⟩, .string ⟨#[99, 113, 112]⟩, .string ⟨#[104, 103, 99, 113, 112, 100, 120]⟩, .string ⟨#[104, 103, 99, 113, 112, 100]⟩, .string ⟨#[99, 113, 112, 100]⟩, .string ⟨#[98, 115]⟩] 9)).alloc (.cells #[.int .u8 0] 5)) w1.heap.size 32 (MC { kind := kd, body := [0] } { Ab := (some ⟨w1.heap.size + 1 + 1, 0, none⟩), cb := 1 }) := by exact (Blk.new w1 32 (MC { kind := kd, body := [0] } { Ab := (some ⟨w1.heap.size + 1 + 1, 0, none⟩), cb := 1 })).alloc _ |>.alloc _
    have MM : Mods Nil w (((w1.alloc (.cells #[.int .i64 kd, .int .u64 0, .int .u64 0, .int .i64 0, .int .i64 0, .int .u64 0, .int .u64 0, .int .u64 0, .int .i64 0, .slice none 0 0, .slice (some ⟨w1.heap.size + 1 + 1, 0, none⟩) 1 1] 32)).alloc (.cells #[.string ⟨#[]⟩, .string ⟨#[104, 103, 99, 113, 120]⟩, .string ⟨#[104, 103, 99, 113, 112, 100]⟩, .string ⟨#[104, 103, 99, 113, 112, 120]⟩, .string ⟨#[104, 103, 112]⟩, .string ⟨#[104, 103, 112]⟩, .string ⟨#[104, 103, 118]⟩, .string ⟨#[98, 115]⟩, .string ⟨#[98, 115, 120]⟩, .string ⟨#[98, 115, 120]⟩, .string ⟨#[98, 115]⟩, .string ⟨#[98]⟩, .string ⟨#[115, 120]⟩, .string ⟨#[115]⟩, .string ⟨#[99, 113, 112]⟩, .string ⟨#[104, 103, 99, 113, 112, 100, 120]⟩, .string ⟨#[104, 103, 99, 113, 112, 100]⟩, .string ⟨#[99, 113, 112, 100]⟩, .string ⟨#[98, 115]⟩] 9)).alloc (.cells #[.int .u8 0] 5)) := M1.out.alloc _ |>.alloc _ |>.alloc _
    have TT : Tab (((w1.alloc (.cells #[.int .i64 kd, .int .u64 0, .int .u64 0, .int .i64 0, .int .i64 0, .int .u64 0, .int .u64 0, .int .u64 0, .int .i64 0, .slice none 0 0, .slice (some ⟨w1.heap.size + 1 + 1, 0, none⟩) 1 1] 32)).alloc (.cells #[.string ⟨#[]⟩, .string ⟨#[104, 103, 99, 113, 120]⟩, .string ⟨#[104, 103, 99, 113, 112, 100]⟩, .string ⟨#[104, 103, 99, 113, 112, 120]⟩, .string ⟨#[104, 103, 112]⟩, .string ⟨#[104, 103, 112]⟩, .string ⟨#[104, 103, 118]⟩, .string ⟨#[98, 115]⟩, .string ⟨#[98, 115, 120]⟩, .string ⟨#[98, 115, 120]⟩, .string ⟨#[98, 115]⟩, .string ⟨#[98]⟩, .string ⟨#[115, 120]⟩, .string ⟨#[115]⟩, .string ⟨#[99, 113, 112]⟩, .string ⟨#[104, 103, 99, 113, 112, 100, 120]⟩, .string ⟨#[104, 103, 99, 113, 112, 100]⟩, .string ⟨#[99, 113, 112, 100]⟩, .string ⟨#[98, 115]⟩] 9)).alloc (.cells #[.int .u8 0] 5)) := HT1.out.mods ((Mods.refl Nil _).alloc _ |>.alloc _ |>.alloc _) (fun h => h)
    obtain ⟨W2, hW2⟩ : ∃ W2, (((w1.alloc (.cells #[.int .i64 kd, .int .u64 0, .int .u64 0, .int .i64 0, .int .i64 0, .int .u64 0, .int .u64 0, .int .u64 0, .int .i64 0, .slice none 0 0, .slice (some ⟨w1.heap.size + 1 + 1, 0, none⟩) 1 1] 32)).alloc (.cells #[.string ⟨#[]⟩, .string ⟨#[104, 103, 99, 113, 120]⟩, .string ⟨#[104, 103, 99, 113, 112, 100]⟩, .string ⟨#[104, 103, 99, 113, 112, 120]⟩, .string ⟨#[104, 103, 112]⟩, .string ⟨#[104, 103, 112]⟩, .string ⟨#[104, 103, 118]⟩, .string ⟨#[98, 115]⟩, .string ⟨#[98, 115, 120]⟩, .string ⟨#[98, 115, 120]⟩, .string ⟨#[98, 115]⟩, .string ⟨#[98]⟩, .string ⟨#[115, 120]⟩, .string ⟨#[115]⟩, .string ⟨#[99, 113, 112]⟩, .string ⟨#[104, 103, 99, 113, 112, 100, 120]⟩, .string ⟨#[104, 103, 99, 113, 112, 100]⟩, .string ⟨#[99, 113, 112, 100]⟩, .string ⟨#[98, 115]⟩] 9)).alloc (.cells #[.int .u8 0] 5)) = W2 := ⟨_, rfl⟩
    rw [hW2] at BB MM TT ⊢
    have HBB := Lib.hid BB
    have HMM := Lib.hid MM
    have HTW := Lib.hid TT
    clear hW2 BB MM TT
    go_loopw [10, 11] (fun s i wr => i = .int .i64 0 ∧ s = .bool false ∧ Mods Nil W2 wr) (fun _ _ _ => 0)
    case atStart => exact ⟨rfl, rfl, Mods.refl _ _⟩
    case round =>
      obtain ⟨rfl, rfl, hmo⟩ := hrel
      have HMO := Lib.hid (HMM.out.trans hmo)
      obtain ⟨d0, d1, d2, d3, d4, d5, d6, d7, d8, d9, d10⟩ := (HBB.out.mods hmo (fun h => h)).mc
      dsimp only [List.length_nil, List.length_cons] at d0 d1 d2 d3 d4 d5 d6 d7 d8 d9 d10
      go_wp2_with (go_at_call 17; refine (check_any (m := { kind := kd, body := [0] }) (L := { Ab := (some ⟨w1.heap.size + 1 + 1, 0, none⟩), cb := 1 }) HOK.out (HTW.out.mods hmo (fun h => h))).mono ?_; rintro e w3 ⟨rfl, m3⟩; rw [HCK.out]; have M3 := Lib.hid (HMO.out.trans m3); clear m3)
      go_ret
      exact ⟨rfl, M3.out⟩

set_option maxHeartbeats 8000000 in
theorem msgKinds_hi_9 (w : World) (hT : Tab w) (kd : Int) (hkd : -9223372036854775808 ≤ kd ∧ kd ≤ 9223372036854775807) (d : Nat) (hd : d < 256) (hdk : d % 10 = 9) (h1 : 18 < kd) :
    Calls Tryd.prog 6 #[.int .i64 kd, .int .u8 d] w fun e w' => e = .returned (.bool true) ∧ Mods Nil w w' := by
    have HT := Lib.hid hT
    have hk : isK kd = false := by simp [isK]; omega
    have h2 : 1 ≤ kd := by omega
    clear hT
    have hok : PM.ok { kind := kd, body := [0] } := by constructor <;> simp <;> omega
    have HOK := Lib.hid hok
    have hmod : (d : Int) % 10 = 9 := by omega
    have hmod2 : (d : Int).tmod 10 = 9 := by rw [Int.tmod_eq_emod_of_nonneg (by omega)]; omega
    have HCK : Hid (chk { kind := kd, body := [0] } = 1) := chk_nokind hk
    clear hok hk
    go_enter Tryd.func6, Tryd.ntmps6
    go_wp2_with (go_at_call 9; refine (awake4_any _ HT.out).mono ?_; rintro e w1 ⟨rfl, m1⟩; have M1 := Lib.hid m1; have HT1 := Lib.hid (HT.out.mods m1 (fun h => h)); clear m1)
    have BB : Blk (((w1.alloc (.cells #[.int .i64 kd, .int .u64 0, .int .u64 0, .int .i64 0, .int .i64 0, .int .u64 0, .int .u64 0, .int .u64 0, .int .i64 0, .slice none 0 0, .slice (some ⟨w1.heap.size + 1 + 1, 0, none⟩) 1 1] 32)).alloc (.cells #[.string ⟨#[]⟩, .string ⟨#[104, 103, 99, 113, 120]⟩, .string ⟨#[104, 103, 99, 113, 112, 100]⟩, .string ⟨#[104, 103, 99, 113, 112, 120]⟩, .string ⟨#[104, 103, 112]⟩, .string ⟨#[104, 103, 112]⟩, .string ⟨#[104, 103, 118]⟩, .string ⟨#[98, 115]⟩, .string ⟨#[98, 115, 120]⟩, .string ⟨#[98, 115, 120]⟩, .string ⟨#[98, 115]⟩, .string ⟨#[98]⟩, .string ⟨#[115, 120]⟩, .string ⟨#[115]⟩, .string ⟨#[99, 113, 112]⟩, .string ⟨#[104, 103, 99, 113, 112, 100, 120]⟩, .string ⟨#[104, 103, 99, 113, 112, 100]⟩, .string ⟨#[99, 113, 112, 100]⟩, .string ⟨#[98, 115]⟩] 9)).alloc (.cells #[.int .u8 0] 5)) w1.heap.size 32 (MC { kind := kd, body := [0] } { Ab := (some ⟨w1.heap.size + 1 + 1, 0, none⟩), cb := 1 }) := by exact (Blk.new w1 32 (MC { kind := kd, body := [0] } { Ab := (some ⟨w1.heap.size + 1 + 1, 0, none⟩), cb := 1 })).alloc _ |>.alloc _
    have MM : Mods Nil w (((w1.alloc (.cells #[.int .i64 kd, .int .u64 0, .int .u64 0, .int .i64 0, .int .i64 0, .int .u64 0, .int .u64 0, .int .u64 0, .int .i64 0, .slice none 0 0, .slice (some ⟨w1.heap.size + 1 + 1, 0, none⟩) 1 1] 32)).alloc (.cells #[.string ⟨#[]⟩, .string ⟨#[104, 103, 99, 113, 120]⟩, .string ⟨#[104, 103, 99, 113, 112, 100]⟩, .string ⟨#[104, 103, 99, 113, 112, 120]⟩, .string ⟨#[104, 103, 112]⟩, .string ⟨#[104, 103, 112]⟩, .string ⟨#[104, 103, 118]⟩, .string ⟨#[98, 115]⟩, .string ⟨#[98, 115, 120]⟩, .string ⟨#[98, 115, 120]⟩, .string ⟨#[98, 115]⟩, .string ⟨#[98]⟩, .string ⟨#[115, 120]⟩, .string ⟨#[115]⟩, .string ⟨#[99, 113, 112]⟩, .string ⟨#[104, 103, 99, 113, 112, 100, 120]⟩, .string ⟨#[104, 103, 99, 113, 112, 100]⟩, .string ⟨#[99, 113, 112, 100]⟩, .string ⟨#[98, 115]⟩] 9)).alloc (.cells #[.int .u8 0] 5)) := M1.out.alloc _ |>.alloc _ |>.alloc _
    have TT : Tab (((w1.alloc (.cells #[.int .i64 kd, .int .u64 0, .int .u64 0, .int .i64 0, .int .i64 0, .int .u64 0, .int .u64 0, .int .u64 0, .int .i64 0, .slice none 0 0, .slice (some ⟨w1.heap.size + 1 + 1, 0, none⟩) 1 1] 32)).alloc (.cells #[.string ⟨#[]⟩, .string ⟨#[104, 103, 99, 113, 120]⟩, .string ⟨#[104, 103, 99, 113, 112, 100]⟩, .string ⟨#[104, 103, 99, 113, 112, 120]⟩, .string ⟨#[104, 103, 112]⟩, .string ⟨#[104, 103, 112]⟩, .string ⟨#[104, 103, 118]⟩, .string ⟨#[98, 115]⟩, .string ⟨#[98, 115, 120]⟩, .string ⟨#[98, 115, 120]⟩, .string ⟨#[98, 115]⟩, .string ⟨#[98]⟩, .string ⟨#[115, 120]⟩, .string ⟨#[115]⟩, .string ⟨#[99, 113, 112]⟩, .string ⟨#[104, 103, 99, 113, 112, 100, 120]⟩, .string ⟨#[104, 103, 99, 113, 112, 100]⟩, .string ⟨#[99, 113, 112, 100]⟩, .string ⟨#[98, 115]⟩] 9)).alloc (.cells #[.int .u8 0] 5)) := HT1.out.mods ((Mods.refl Nil _).alloc _ |>.alloc _ |>.alloc _) (fun h => h)
    obtain ⟨W2, hW2⟩ : ∃ W2, (((w1.alloc (.cells #[.int .i64 kd, .int .u64 0, .int .u64 0, .int .i64 0, .int .i64 0, .int .u64 0, .int .u64 0, .int .u64 0, .int .i64 0, .slice none 0 0, .slice (some ⟨w1.heap.size + 1 + 1, 0, none⟩) 1 1] 32)).alloc (.cells #[.string ⟨#[]⟩, .string ⟨#[104, 103, 99, 113, 120]⟩, .string ⟨#[104, 103, 99, 113, 112, 100]⟩, .string ⟨#[104, 103, 99, 113, 112, 120]⟩, .string ⟨#[104, 103, 112]⟩, .string ⟨#[104, 103, 112]⟩, .string ⟨#[104, 103, 118]⟩, .string ⟨#[98, 115]⟩, .string ⟨#[98, 115, 120]⟩, .string ⟨#[98, 115, 120]⟩, .string ⟨#[98, 115]⟩, .string ⟨#[98]⟩, .string ⟨#[115, 120]⟩, .string ⟨#[115]⟩, .string ⟨#[99, 113, 112]⟩, .string ⟨#[104, 103, 99, 113, 112, 100, 120]⟩, .string ⟨#[104, 103, 99, 113, 112, 100]⟩, .string ⟨#[99, 113, 112, 100]⟩, .string ⟨#[98, 115]⟩] 9)).alloc (.cells #[.int .u8 0] 5)) = W2 := ⟨_, rfl⟩
    rw [hW2] at BB MM TT ⊢
    have HBB := Lib.hid BB
    have HMM := Lib.hid MM
    have HTW := Lib.hid TT
    clear hW2 BB MM TT
    go_loopw [10, 11] (fun s i wr => i = .int .i64 0 ∧ s = .bool false ∧ Mods Nil W2 wr) (fun _ _ _ => 0)
    case atStart => exact ⟨rfl, rfl, Mods.refl _ _⟩
    case round =>
      obtain ⟨rfl, rfl, hmo⟩ := hrel
      have HMO := Lib.hid (HMM.out.trans hmo)
      obtain ⟨d0, d1, d2, d3, d4, d5, d6, d7, d8, d9, d10⟩ := (HBB.out.mods hmo (fun h => h)).mc
      dsimp only [List.length_nil, List.length_cons] at d0 d1 d2 d3 d4 d5 d6 d7 d8 d9 d10
      go_wp2_with (go_at_call 17; refine (check_any (m := { kind := kd, body := [0] }) (L := { Ab := (some ⟨w1.heap.size + 1 + 1, 0, none⟩), cb := 1 }) HOK.out (HTW.out.mods hmo (fun h => h))).mono ?_; rintro e w3 ⟨rfl, m3⟩; rw [HCK.out]; have M3 := Lib.hid (HMO.out.trans m3); clear m3)
      go_ret
      exact ⟨rfl, M3.out⟩

end Go.Proofs.YtlheaicojmjdpaaDoor
