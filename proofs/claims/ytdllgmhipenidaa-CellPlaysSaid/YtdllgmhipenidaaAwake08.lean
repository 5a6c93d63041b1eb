/- What the statements of layer 8 begin with: the document's example. -/
import Derived.Test.YtdllgmhipenidaaAt8
namespace Go.Proofs.Ytdllgmhipenidaa
set_option maxRecDepth 1000000
open Go.RowKit
set_option linter.unusedVariables false

def ab8 : List UInt8 := [97, 98]
theorem sl_byte {w : World} {blk off c : Nat} {xs : List UInt8} (h : Sl w (some ⟨blk, off, none⟩) c (bts xs)) {i : Nat} {u : UInt8} (hu : xs[i]? = some u) : w.cell? ⟨blk, off + i, none⟩ = some (.int .u8 (u.toNat : Int)) := by
  refine h.cells i _ ?_
  unfold bts
  rw [List.getElem?_map, hu]
  rfl
set_option maxHeartbeats 3200000 in
theorem awake8_any (w : World) : Calls Try.prog 33 #[] w fun e w' => e = .returned (.bool true) ∧ Mods Nil w w' := by
  have HN := Lib.hid (lnew w (base := w.heap.size) (n := 3) (k := 3) (Nat.le_refl _) rfl (by omega) (by omega))
  have HO := Lib.hid (fun (W : World) (db : Nat) (h : DiskAt W w.heap.size db (live (List.replicate 3 zeros64) [])) (hb : w.heap.size ≤ W.heap.size) => a8new (at_ := 1) (i := 1) h hb (by omega) (by omega) rfl)
  obtain ⟨b, hb⟩ : ∃ b, layC 1 ab8 = b := ⟨_, rfl⟩
  obtain ⟨L1, hL1⟩ : ∃ L, (List.replicate 3 zeros64).set 1 b = L := ⟨_, rfl⟩
  obtain ⟨c1, hc1⟩ : ∃ c, (cellNew 1).tell ab8 = c := ⟨_, rfl⟩
  have HS : Hid (∀ (W : World) (cb db : Nat), At8 W w.heap.size cb db 1 (List.replicate 3 zeros64) (cellNew 1) → Calls Try.prog 36 #[.pointer (some ⟨cb, 0, none⟩), .slice (some ⟨W.heap.size, 0, none⟩) 2 2] (W.alloc (.cells #[.int .u8 97, .int .u8 98] 5 (2, 3))) fun e w' => e = .returned (.int .i64 0) ∧ At8 w' w.heap.size cb db 1 L1 c1 ∧ CM w.heap.size (W.alloc (.cells #[.int .u8 97, .int .u8 98] 5 (2, 3))) w') := Lib.hid (fun W cb db h => by
    have := a8set (s := ab8) (n := 2) (A := some ⟨W.heap.size, 0, none⟩) (cc := 2) (h.nil ((Mods.refl Nil W).alloc (.cells #[.int .u8 97, .int .u8 98] 5 (2, 3)))) (build_at (n := 2) rfl rfl rfl (by simp [maxLen])) rfl (by omega) (by simp [cellNew])
    rw [hc1, show (cellNew 1).great + 1 = 1 from rfl, hb, show 1 + (cellNew 1).spare = 1 from rfl, hL1] at this
    exact this)
  have hd : c1.data = ab8 := by rw [← hc1]; exact PCell.tell_data _ (by decide)
  have ht : c1.turn = 1 := by rw [← hc1]; exact cellNew_tell_turn 1 ab8
  have HGET := Lib.hid (fun (W : World) (cb db : Nat) (h : At8 W w.heap.size cb db 1 L1 c1) => a8get h hd (n := 2) rfl)
  have HTURN := Lib.hid (fun (W : World) (cb db : Nat) (h : At8 W w.heap.size cb db 1 L1 c1) => a8turn h ht (y := 1) rfl)
  have HLEN : L1.length = 3 := by rw [← hL1]; simp
  have HRD : Hid (∀ (W : World) (db : Nat), DiskAt W w.heap.size db (live L1 []) → Calls Try.prog 87 #[.pointer (some ⟨db, 0, none⟩), .int .i64 1] W fun e w' => ∃ A c m, e = .returned (.tuple #[.slice A m c, .int .i64 0]) ∧ b.length = m ∧ m = 64 ∧ Sl w' A c (bts b) ∧ Mods Nil W w') := Lib.hid (fun W db h => lread h (by omega) (by rw [HLEN]; omega) (by rw [← hL1]; rfl))
  have HO2 : Hid (∀ (W : World) (db : Nat), DiskAt W w.heap.size db (live L1 []) → w.heap.size ≤ W.heap.size → op2 1 (L1.getD 1 []) (L1.getD 2 []) = c1 → Calls Try.prog 34 #[.pointer (some ⟨db, 0, none⟩), .int .i64 1] W fun e w' => ∃ cb, e = .returned (.tuple #[.pointer (some ⟨cb, 0, none⟩), .int .i64 0]) ∧ At8 w' w.heap.size cb db 1 L1 c1 ∧ Mods Nil W w') := Lib.hid (fun W db h hb hop => by
    have := a8open h hb (at_ := 1) (i := 1) (by omega) (by omega) rfl
    rw [show 1 + 1 = 2 from rfl, hop] at this
    exact this)
  have hb7 : b[7]? = some 1 := by rw [← hb]; rfl
  have hb8 : b[8]? = some 2 := by rw [← hb]; rfl
  have hb9 : b[9]? = some 97 := by rw [← hb]; rfl
  have HB7 := Lib.hid hb7
  have HB8 := Lib.hid hb8
  have HB9 := Lib.hid hb9
  have e1 : (strOf ab8).toList = [97, 98] := by rw [strOf_toList]; rfl
  have hcv := fun (w : World) (C : Array Value) (n c : Nat) => Lib.run_convert_bytes_const (P := Try.prog) w 42 5 C n c Try.underlying42 Try.underlying5
  clear hb hL1 hc1 hd ht HLEN hb7 hb8 hb9
  go_enter Try.func33, Try.ntmps33
  go_wp2_with (first
    | (go_at_call 13; refine HN.out.mono ?_; rintro e w1 ⟨db, rfl, d1, m1⟩; have D1 := Lib.hid d1; have M1 := Lib.hid m1; clear d1 m1)
    | (go_at_call 34; refine (HO2.out _ _ A4.out.disk M4.out.size A4.out.op).mono ?_; rintro e w5 ⟨cb2, rfl, a5, m5⟩; have A5 := Lib.hid a5; have M5 := Lib.hid (M4.out.trans m5); have S5 := Lib.hid (S4.out.mods m5 (fun _ _ h => h)); clear a5 m5; have k7 := sl_byte S5.out HB7.out; have k8 := sl_byte S5.out HB8.out; have k9 := sl_byte S5.out HB9.out)
    | (go_at_call 34; refine (HO.out _ _ D1.out M1.out.size).mono ?_; rintro e w2 ⟨cb, rfl, a2, m2⟩; have A2 := Lib.hid a2; have M2 := Lib.hid (M1.out.trans m2); clear a2 m2)
    | (go_at_call 36; refine (HS.out _ _ _ A2.out).mono ?_; rintro e w3 ⟨rfl, a3, m3⟩; have A3 := Lib.hid a3; have M3 := Lib.hid (CM.nilTrans (M2.out.alloc _) (Nat.le_refl _) m3); clear a3 m3)
    | (go_at_call 87; refine (HRD.out _ _ A3.out.disk).mono ?_; rintro e w4 ⟨Ar, cr, mr, rfl, lr, rfl, sr, m4⟩; obtain ⟨bk, of, rfl, -, -⟩ := sr.at_ (by rw [bts_length]; omega); have S4 := Lib.hid sr; have A4 := Lib.hid (A3.out.nil m4); have M4 := Lib.hid (M3.out.trans m4); clear sr m4 lr)
    | (go_at_call 40; refine (HGET.out _ _ _ A5.out).mono ?_; rintro e w6 ⟨Ag, cg, rfl, sg, m6⟩; have A6 := Lib.hid (A5.out.nil m6); have M6 := Lib.hid (M5.out.trans m6); have v6 := conv8 (n := 2) rfl sg; clear sg m6)
    | (go_at_call 41; refine (HTURN.out _ _ _ A6.out).mono ?_; rintro e w7 ⟨rfl, m7⟩; have M7 := Lib.hid (M6.out.trans m7); clear m7))
  go_ret
  exact ⟨rfl, M7.out⟩
end Go.Proofs.Ytdllgmhipenidaa
