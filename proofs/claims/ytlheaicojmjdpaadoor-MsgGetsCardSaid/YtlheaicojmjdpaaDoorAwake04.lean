/- What the statements of layer 4 begin with: the document's example. -/
import Derived.Test.YtlheaicojmjdpaaDoorMsgD
namespace Go.Proofs.YtlheaicojmjdpaaDoor
set_option maxRecDepth 100000
open Go.RowKit
set_option linter.unusedVariables false

def exM : PM := { kind := 13, slot := 5 }
theorem exM_ok : exM.ok := by constructor <;> simp [exM]
theorem exM_good : Good exM := chk_zero.1 (by decide)
theorem putU_5 : putU 5 = [1, 5] := by
  have h : digs 5 = [5] := by rw [digs_pos (by decide), show 5 / 256 = 0 from rfl, digs_zero]; rfl
  unfold putU; rw [h]; rfl
theorem putU_2 : putU 2 = [1, 2] := by
  have h : digs 2 = [2] := by rw [digs_pos (by decide), show 2 / 256 = 0 from rfl, digs_zero]; rfl
  unfold putU; rw [h]; rfl
theorem exM_body : bodyOf exM = [1, 5] := by
  have h : fl exM.kind = [1] := by decide
  unfold bodyOf
  rw [h]
  simp [putFs, putF, amt, exM, putU_5]
theorem exM_bytes : putOf exM = [1, 2, 13, 1, 5] ++ fourOf (sumOf [1, 2, 13, 1, 5]) := by
  unfold putOf frameOf
  rw [exM_body]
  have : putU ([1, 5] : List UInt8).length ++ [kb exM.kind] ++ [1, 5] = [1, 2, 13, 1, 5] := by
    show putU 2 ++ [kb 13] ++ [1, 5] = _
    rw [putU_2]; rfl
  rw [this]
  rfl
theorem exM_length : (putOf exM).length = 9 := by rw [exM_bytes]; simp [fourOf_length]
theorem exM_at : (bts (putOf exM))[0]? = some (.int .u8 1) ∧ (bts (putOf exM))[1]? = some (.int .u8 2) ∧ (bts (putOf exM))[2]? = some (.int .u8 13) ∧ (bts (putOf exM))[4]? = some (.int .u8 5) := by
  rw [exM_bytes, bts_append]
  exact ⟨rfl, rfl, rfl, rfl⟩

set_option maxHeartbeats 6400000 in
theorem awake4_any (w : World) (hT : Tab w) : Calls Tryd.prog 9 #[] w fun e w' => e = .returned (.bool true) ∧ Mods Nil w w' := by
  have HT := Lib.hid hT
  have HL := Lib.hid exM_length
  have HAT := Lib.hid exM_at
  have HG := Lib.hid (get_put exM_ok exM_good)
  have hc1 : chk { kind := 11, seq := 1 } = 1 := by decide
  have hk1 : PM.ok { kind := 11, seq := 1 } := by constructor <;> simp
  have HC1 := Lib.hid hc1
  have HK1 := Lib.hid hk1
  clear hT hc1 hk1
  go_enter Tryd.func9, Tryd.ntmps9
  go_wp2_with (first
    | (go_at_call 15; refine (mput_any (m := exM) (L := {}) exM_ok HT.out ⟨Sl.none_ _, Sl.none_ _⟩ exM_good).mono ?_; rintro e w1 ⟨v1, rfl, o1, m1⟩; obtain ⟨A1, c1, rfl, n1, s1, b1⟩ := own_slice o1; rw [HL.out]; clear n1; obtain ⟨bb, off, rfl, hbb, hcell⟩ := s1.at_ (by rw [bts_length, HL.out]; omega); have HC := Lib.hid hcell; have S1 := Lib.hid s1; have M1 := Lib.hid m1; have HT1 := Lib.hid (HT.out.mods m1 (fun h => h)); clear o1 s1 b1 m1 hcell)
    | (go_at_call 11; refine (mget_any HT1.out HL.out S1.out (by omega)).mono ?_; rw [HG.out.1, HG.out.2]; rintro e w2 ⟨L2, rfl, i2, m2⟩; have hB2 : Blk (w2.alloc (.cells #[.int .i64 13, .int .u64 0, .int .u64 5, .int .i64 0, .int .i64 0, .int .u64 0, .int .u64 0, .int .u64 0, .int .i64 0, .slice L2.Av 0 L2.cv, .slice L2.Ab 0 L2.cb] 32)) w2.heap.size 32 (MC exM L2) := Blk.new w2 _ _; have d0 := hB2.mc.1; have d2 := hB2.mc.2.2.1; have mA : Mods Nil w1 (w2.alloc (.cells #[.int .i64 13, .int .u64 0, .int .u64 5, .int .i64 0, .int .i64 0, .int .u64 0, .int .u64 0, .int .u64 0, .int .i64 0, .slice L2.Av 0 L2.cv, .slice L2.Ab 0 L2.cb] 32)) := m2.alloc _; have e0 := (World.cell?_of_block (mA.block bb hbb (fun h => h))).trans (HC.out 0 _ HAT.out.1); have e1 := (World.cell?_of_block (mA.block bb hbb (fun h => h))).trans (HC.out 1 _ HAT.out.2.1); have e2 := (World.cell?_of_block (mA.block bb hbb (fun h => h))).trans (HC.out 2 _ HAT.out.2.2.1); have e4 := (World.cell?_of_block (mA.block bb hbb (fun h => h))).trans (HC.out 4 _ HAT.out.2.2.2); rw [Nat.add_zero] at e0; have M2 := Lib.hid (M1.out.trans mA); have HT2 := Lib.hid (HT1.out.mods mA (fun h => h)); clear i2 m2 hB2 mA; have x0 : exM.kind = 13 := rfl; have x2 : ((exM.slot : Nat) : Int) = 5 := rfl; rw [x0] at d0; rw [x2] at d2; clear x0 x2; dsimp only [MC, exM])
    | (go_at_call 17; refine (check_any (m := { kind := 11, seq := 1 }) (L := {}) HK1.out HT2.out).mono ?_; rintro e w3 ⟨rfl, m3⟩; rw [HC1.out]; have M3 := Lib.hid (M2.out.trans m3); clear m3))
  go_ret
  exact ⟨rfl, M3.out⟩
end Go.Proofs.YtlheaicojmjdpaaDoor
