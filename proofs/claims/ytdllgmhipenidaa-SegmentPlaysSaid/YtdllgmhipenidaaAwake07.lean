/- What the statements of layer 7 begin with: the document's example. -/
import Derived.Test.YtdllgmhipenidaaAt7
namespace Go.Proofs.Ytdllgmhipenidaa
set_option maxRecDepth 1000000
open Go.RowKit
set_option linter.unusedVariables false

def hello7 : List UInt8 := [104, 101, 108, 108, 111]
def lost7 : List UInt8 := [108, 111, 115, 116]
set_option maxHeartbeats 6400000 in
theorem awake7_any (w : World) : Calls Try.prog 12 #[] w fun e w' => e = .returned (.bool true) ∧ Mods Nil w w' := by
  have HN : Hid (Calls Try.prog 13 #[.int .i64 8] w fun e w' => ∃ db, e = .returned (.tuple #[.pointer (some ⟨db, 0, none⟩), .int .i64 0]) ∧ DiskAt w' w.heap.size db (runD [zeros64] (List.replicate 6 zeros64) [zeros64] [] [] 1) ∧ Mods Nil w w') := Lib.hid (by
    have := lnew w (base := w.heap.size) (n := 8) (k := 8) (Nat.le_refl _) (by omega) (by omega) (by omega)
    rw [← live_new, show (8 : Nat) = 1 + 6 + 1 from rfl, new_runD] at this
    exact this)
  have R0 : Run (List.replicate 6 zeros64) [] [] 1 6 := Run.new 6
  have u1 : usedP (with_ 1 [hello7]) = 1 := rfl
  have HO := Lib.hid (fun (W : World) (db : Nat) (h : DiskAt W w.heap.size db (runD [zeros64] (List.replicate 6 zeros64) [zeros64] [] [] 1)) (hb : w.heap.size ≤ W.heap.size) => a7open (a := 1) (k := 6) h hb (run_open0 [zeros64].length 6) R0 (by omega) (by simp) (by rw [zeros_stamp]; omega) rfl rfl)
  have HA1 := Lib.hid (fun (W : World) (sb db : Nat) (h : At7 W w.heap.size sb db [zeros64] (List.replicate 6 zeros64) [zeros64] [] [] 1 6) => a7append (q := 5) (k := 0) (h.nil ((Mods.refl Nil W).alloc (.cells #[.int .u8 104, .int .u8 101, .int .u8 108, .int .u8 108, .int .u8 111] 5 (5, 6)))) (Nat.zero_le _) (sb_new w.heap.size W (xs := hello7) (n := 5) rfl rfl (by unfold maxLen; omega)) rfl (by omega) (by decide) rfl)
  obtain ⟨L1, hL1⟩ : ∃ L, layAll (List.replicate 6 zeros64) (rowW (usedP []) (blocksOf 1 0 [hello7])) = L := ⟨_, rfl⟩
  have HSY : Hid (∀ (W : World) (sb db : Nat), At7 W w.heap.size sb db [zeros64] (List.replicate 6 zeros64) [zeros64] [] [hello7] 1 6 → Calls Try.prog 20 #[.pointer (some ⟨sb, 0, none⟩)] W fun e w' => e = .returned (.int .i64 0) ∧ At7 w' w.heap.size sb db [zeros64] L1 [zeros64] [(hello7, 1)] [] 1 6 ∧ SM w.heap.size W w') := Lib.hid (fun W sb db h => by
    have := a7sync h (by omega)
    rw [show ([] : Recs).length = 0 from rfl, hL1] at this
    exact this)
  have HA2 := Lib.hid (fun (W : World) (sb db : Nat) (h : At7 W w.heap.size sb db [zeros64] L1 [zeros64] [(hello7, 1)] [] 1 6) => a7append (q := 4) (k := 1) (h.nil ((Mods.refl Nil W).alloc (.cells #[.int .u8 108, .int .u8 111, .int .u8 115, .int .u8 116] 5 (4, 5)))) (Nat.zero_le _) (sb_new w.heap.size W (xs := lost7) (n := 4) rfl rfl (by unfold maxLen; omega)) rfl (by omega) (by decide) rfl)
  have HCR := Lib.hid (fun (W : World) (sb db : Nat) (h : At7 W w.heap.size sb db [zeros64] L1 [zeros64] [(hello7, 1)] [lost7] 1 6) => a7lost h.disk h.run)
  have HO2 := Lib.hid (fun (W : World) (db E' : Nat) (h : DiskAt W w.heap.size db (runD [zeros64] L1 [zeros64] [(hello7, 1)] [] E')) (hb : w.heap.size ≤ W.heap.size) (hop : segOpen L1 1 = runS 1 [(hello7, 1)] [] E' 6) (hst : stampP L1 < 4294967295) (R : Run L1 [(hello7, 1)] [] E' 6) => a7open (a := 1) (k := 6) h hb hop R (by omega) (by simp) hst rfl rfl)
  have HSTR : Hid (∀ (W : World) A c, Sl W A c (bts hello7) → (convert 42 9 (.slice A 5 c)).run Try.prog W = .ok (.string ⟨#[104, 101, 108, 108, 111]⟩) W) := Lib.hid (fun W A c h => run_string_sl W 42 5 Try.underlying42 Try.underlying5 A 5 c hello7 rfl h 9 Try.underlying9)
  have HND := Lib.hid (fun W => sneed_any W 50 (by omega))
  have hcv := fun (w : World) (C : Array Value) (n c : Nat) => Lib.run_convert_bytes_const (P := Try.prog) w 42 5 C n c Try.underlying42 Try.underlying5
  clear R0 u1 hL1
  go_enter Try.func12, Try.ntmps12
  go_wp2_with (first
    | (go_at_call 13; refine HN.out.mono ?_; rintro e w1 ⟨db, rfl, d1, m1⟩; have D1 := Lib.hid d1; have M1 := Lib.hid m1; clear d1 m1)
    | (go_at_call 15; refine (HO2.out _ _ E' D6.out M6.out.size OP6.out ST6.out R6.out).mono ?_; rintro e w7 ⟨sb2, rfl, a7, m7⟩; have A7 := Lib.hid a7; have M7 := Lib.hid (M6.out.trans m7); clear a7 m7)
    | (go_at_call 15; refine (HO.out _ _ D1.out M1.out.size).mono ?_; rintro e w2 ⟨sb, rfl, a2, m2⟩; have A2 := Lib.hid a2; have M2 := Lib.hid (M1.out.trans m2); clear a2 m2)
    | (go_at_call 17; refine (HA2.out _ _ _ A4.out).mono ?_; rintro e w5 ⟨rfl, a5, m5⟩; have A5 := Lib.hid a5; have M5 := Lib.hid (SM.nilTrans (M4.out.alloc _) (Nat.le_refl _) m5); clear a5 m5)
    | (go_at_call 17; refine (HA1.out _ _ _ A2.out).mono ?_; rintro e w3 ⟨rfl, a3, m3⟩; have A3 := Lib.hid a3; have M3 := Lib.hid (SM.nilTrans (M2.out.alloc _) (Nat.le_refl _) m3); clear a3 m3)
    | (go_at_call 20; refine (HSY.out _ _ _ A3.out).mono ?_; rintro e w4 ⟨rfl, a4, m4⟩; have A4 := Lib.hid a4; have M4 := Lib.hid (SM.nilTrans M3.out (Nat.le_refl _) m4); clear a4 m4)
    | (go_at_call 29; refine (HCR.out _ _ _ A5.out).mono ?_; rintro e w6 ⟨rfl, d6, r6, m6⟩; obtain ⟨E', op6, st6, le6, eq6, r66⟩ := Run.again (pre := [zeros64]) (post := [zeros64]) r6 (by omega) (by omega); rw [eq6] at d6; have D6 := Lib.hid d6; have R6 := Lib.hid r66; have OP6 := Lib.hid op6; have ST6 : Hid (stampP L1 < 4294967295) := Lib.hid (show stampP L1 < 4294967295 by omega); have M6 := Lib.hid (DM.nilTrans M5.out (Nat.le_refl _) m6); clear d6 r6 r66 op6 st6 le6 eq6 m6)
    | (go_at_call 58; refine (a7read (k := 0) (b := hello7) A7.out (by decide) rfl rfl).mono ?_; rintro e w8 ⟨Ar, cr, mr, rfl, lr, sr, m8⟩; obtain rfl : 5 = mr := lr; have SR := Lib.hid sr; have A8 := Lib.hid (A7.out.nil m8); have M8 := Lib.hid (M7.out.trans m8); clear sr m8)
    | (go_at_call 59; refine (a7len (k := 1) A8.out rfl).mono ?_; rintro e w9 ⟨rfl, m9⟩; have A9 := Lib.hid (A8.out.nil m9); have M9 := Lib.hid m9; clear m9)
    | (go_at_call 60; refine (a7sure (k := 1) A9.out rfl).mono ?_; rintro e w10 ⟨rfl, m9⟩; have A10 := Lib.hid (A9.out.nil m9); have M10 := Lib.hid (M9.out.trans m9); clear m9)
    | (go_at_call 61; refine (a7free (k := 5) A10.out (by rfl)).mono ?_; rintro e w11 ⟨rfl, m9⟩; have M11 := Lib.hid (M10.out.trans m9); have c11 := HSTR.out w11 Ar cr (SR.out.mods (M10.out.trans m9) (fun _ _ h => h)); clear m9)
    | (go_at_call 62; refine (HND.out _).mono ?_; rintro e w12 ⟨rfl, rfl⟩))
  go_ret
  exact ⟨rfl, M8.out.trans M11.out⟩
end Go.Proofs.Ytdllgmhipenidaa
