/- What the statements of layer 6 begin with: the document's example. -/
import Derived.Test.YtahahnapnfalcaaFill6
namespace Go.Proofs.Ytahahnapnfalcaa
set_option maxRecDepth 100000
open Go.RowKit
set_option linter.unusedVariables false

def sevens (j : Nat) : List UInt8 := List.replicate j 7 ++ List.replicate (64 - j) 0
theorem sevens_length {j : Nat} (h : j ≤ 64) : (sevens j).length = 64 := by simp [sevens]; omega
theorem sevens_next {j : Nat} (h : j < 64) : (sevens j).set j 7 = sevens (j + 1) := by
  unfold sevens
  rw [List.set_append_right _ _ (by simp), List.length_replicate, Nat.sub_self, show 64 - j = (64 - (j + 1)) + 1 by omega, List.replicate_succ, List.set_cons_zero, List.replicate_succ', List.append_assoc]
  rfl

set_option maxHeartbeats 3200000 in
theorem awake6_any (w : World) : Calls Try.prog 9 #[] w fun e w' => e = .returned (.bool true) ∧ Mods Nil w w' := by
  obtain ⟨i0, hi, hz0, hz1, hz2⟩ := info_parts infoByte
  have HN := Lib.hid (lnew w (base := w.heap.size) (n := 2) (k := 2) (Nat.le_refl _) (by omega) (by omega) (by omega))
  go_enter Try.func9, Try.ntmps9
  go_wp2_with (first
    | (go_at_call 10; refine (HN.out).mono ?_; rintro e w1 ⟨db, rfl, d1, m1⟩; have D1 := Lib.hid d1; have M1 := Lib.hid m1; clear d1 m1)
    | (at_make; refine wpList_make_row _ rfl _ _ 34 rfl 5 i0 (.int .u8 0) Try.underlying34 hi hz0 hz1 rfl .i64 .i64 64 rfl rfl (by rw [hz2]; omega) (by omega) ?_; have B2 := Lib.hid (Blk.new w1 5 (madeCells #[.int .u8 0] 64)); have M2 := Lib.hid ((Mods.refl Nil w1).alloc (.cells (madeCells #[.int .u8 0] 64) 5)); generalize w1.alloc (.cells (madeCells #[.int .u8 0] 64) 5) = w2 at B2 M2 ⊢))
  have e0 : madeCells #[.int .u8 0] 64 = (bts (sevens 0)).toArray := by
    apply Array.ext'
    rw [toList_madeCells_one]
    simp [sevens, bts]
  rw [e0] at B2
  clear e0
  go_loopw [4] (fun x wr => ∃ (j : Nat), j ≤ 64 ∧ x = .int .i64 (j : Int) ∧ Blk wr w1.heap.size 5 (bts (sevens j)).toArray ∧ Mods Nil w1 wr) (fun x _ => 64 - (intOf x).toNat)
  case atStart => exact ⟨0, Nat.zero_le _, rfl, B2.out, M2.out⟩
  case round =>
    obtain ⟨j, hj, rfl, hb, hmo⟩ := hrel
    have HB := Lib.hid hb
    have HMO := Lib.hid hmo
    clear hb hmo
    by_cases hlt : j < 64
    · have h1I : (j : Int) < 64 := by omega
      have c2 := HB.out.cell j
      rw [List.getElem?_toArray, List.getElem?_eq_getElem (by rw [bts_length, sevens_length hj]; exact hlt)] at c2
      replace c2 : ∃ v, wr.cell? ⟨w1.heap.size, j, none⟩ = some v := ⟨_, c2⟩
      obtain ⟨v2, c2⟩ := c2
      have f2 := HB.out.frozen j
      have hb2 := HB.out.set_ j (.int .u8 ((7 : UInt8).toNat : Int))
      rw [bts_set, sevens_next hlt] at hb2
      have HB2 := Lib.hid hb2
      have HM2 := Lib.hid (HMO.out.setNew (p := ⟨w1.heap.size, j, none⟩) (Nat.le_refl _) (.int .u8 7))
      have hE : 64 - (j + 1) < 64 - j := by omega
      clear hb2
      go_wp2_with fail
      exact ⟨⟨j + 1, hlt, by go_num, HB2.out, HM2.out⟩, by simp [intOf]; omega⟩
    · obtain rfl : j = 64 := by omega
      have D2 := Lib.hid (D1.out.nil HMO.out)
      have HW := Lib.hid (lwrite D2.out (by simp) (i := 1) (by omega) (by simp) (Bs.blk HB.out (sevens_length (Nat.le_refl _))) (sevens_length (Nat.le_refl _)) rfl)
      have X2 := Lib.hid (M1.out.trans HMO.out)
      have HC : Hid (∀ W, DiskAt W w.heap.size db (live (List.replicate 2 zeros64) [(1, sevens 64)]) → Calls Try.prog 19 #[.pointer (some ⟨db, 0, none⟩), .slice (some ⟨W.heap.size, 0, none⟩) 1 1] (W.alloc (.cells #[.int .u8 5] 5)) fun e w' => e = .returned (.tuple #[]) ∧ DiskAt w' w.heap.size db (live (crashL (List.replicate 2 zeros64) [(1, sevens 64)] [5]) []) ∧ DM w.heap.size (W.alloc (.cells #[.int .u8 5] 5)) w') := Lib.hid (fun W h => lcrash (h.nil ((Mods.refl _ _).alloc _)) (by have := Bs.of_blk (base := w.heap.size) (n := 1) (ys := [5]) (Blk.new W 5 #[.int .u8 5]) rfl (by simp [maxLen]) 1; exact this) rfl)
      have HR : Hid (∀ W, DiskAt W w.heap.size db (live (crashL (List.replicate 2 zeros64) [(1, sevens 64)] [5]) []) → Calls Try.prog 23 #[.pointer (some ⟨db, 0, none⟩), .int .i64 1] W fun e w' => ∃ A c m, e = .returned (.tuple #[.slice A m c, .int .i64 0]) ∧ (sevens 5).length = m ∧ m = 64 ∧ Sl w' A c (bts (sevens 5)) ∧ Mods Nil W w') := Lib.hid (fun W h => lread h (by omega) (by simp [crashL_length]) (by rfl))
      have HWT : Hid (∀ W, DiskAt W w.heap.size db (live (crashL (List.replicate 2 zeros64) [(1, sevens 64)] [5]) []) → Calls Try.prog 22 #[.pointer (some ⟨db, 0, none⟩)] W fun e w' => e = .returned (.int .i64 0) ∧ W = w') := Lib.hid (fun W h => lwaits h rfl)
      clear hlt hj
      go_wp2_with (first
        | (go_at_call 13; refine (HW.out).mono ?_; rintro e w3 ⟨rfl, d3, m3⟩; have D3 := Lib.hid d3; have X3 := Lib.hid (DM.nilTrans X2.out (Nat.le_refl _) m3); clear d3 m3)
        | (go_at_call 19; refine (HC.out _ D3.out).mono ?_; rintro e w4 ⟨rfl, d4, m4⟩; have D4 := Lib.hid d4; have X4 := Lib.hid (DM.nilTrans (X3.out.alloc _) (Nat.le_refl _) m4); clear d4 m4)
        | (go_at_call 23; refine (HR.out _ D4.out).mono ?_; rintro e w5 ⟨A5, c5, m5, rfl, h5, rfl, s5, k5⟩; obtain ⟨b5, off5, rfl, -, hc5⟩ := s5.at_ (by simp [sevens]); have e4 := hc5 4 (.int .u8 7) rfl; have e5 := hc5 5 (.int .u8 0) rfl; have D5 := Lib.hid (D4.out.nil k5); have X5 := Lib.hid (X4.out.trans k5); clear s5 k5 hc5 h5)
        | (go_at_call 22; refine (HWT.out _ D5.out).mono ?_; rintro e w6 ⟨rfl, rfl⟩))
      go_ret
      exact ⟨rfl, X5.out⟩
end Go.Proofs.Ytahahnapnfalcaa
