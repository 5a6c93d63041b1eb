/- DiskTears' walk. -/
import Derived.Test.YtahahnapnfalcaaHelp6
namespace Go.Proofs.Ytahahnapnfalcaa
set_option maxRecDepth 1000000
open Go.RowKit
set_option linter.unusedVariables false

theorem tear_front {n : Nat} {new old : List UInt8} (h1 : new.length = 64) (hn : n ≤ 64) : (tear n new old).take n = new.take n := by
  unfold tear
  rw [List.take_append_of_le_length (by simp; omega), List.take_of_length_le (by simp; omega)]
theorem tear_back {n : Nat} {new old : List UInt8} (h1 : new.length = 64) (hn : n ≤ 64) : (tear n new old).drop n = old.drop n := by
  unfold tear
  have hl : (new.take n).length = n := by simp; omega
  rw [List.drop_append, hl, List.drop_eq_nil_of_le (by omega), Nat.sub_self, List.drop_zero, List.nil_append]

set_option maxHeartbeats 6400000 in
theorem diskTears_walk (w : World) {A : Option Addr} {c n : Nat} {xs : List UInt8} (hn : xs.length = n) (hs : Sl w A c (bts xs)) {A1 : Option Addr} {c1 n1 : Nat} {ys : List UInt8} (hn1 : ys.length = n1) (hs1 : Sl w A1 c1 (bts ys)) {z : Int} (hz : (Lit.int .u8 z).wf = true) :
    Calls Try.prog 7 #[.slice A n c, .slice A1 n1 c1, .int .u8 z] w fun e w' => e = .returned (.bool true) ∧ Mods Nil w w' := by
  obtain ⟨p, rfl⟩ := u8_as hz
  clear hz
  by_cases h1 : 64 < n
  · have h1I : decide ((64 : Int) < (n : Int)) = true := by simp; omega
    clear hn hs hn1 hs1
    go_enter Try.func7, Try.ntmps7
    go_wp2_with (go_at_call 9; refine (awake6_any _).mono ?_; rintro e w1 ⟨rfl, m1⟩; have M1 := Lib.hid m1; clear m1)
    go_ret
    exact ⟨rfl, M1.out⟩
  have h1I : decide ((64 : Int) < (n : Int)) = false := by simp; omega
  by_cases h2 : 64 < n1
  · have h2I : decide ((64 : Int) < (n1 : Int)) = true := by simp; omega
    clear hn hs hn1 hs1
    go_enter Try.func7, Try.ntmps7
    go_wp2_with (go_at_call 9; refine (awake6_any _).mono ?_; rintro e w1 ⟨rfl, m1⟩; have M1 := Lib.hid m1; clear m1)
    go_ret
    exact ⟨rfl, M1.out⟩
  have h2I : decide ((64 : Int) < (n1 : Int)) = false := by simp; omega
  obtain ⟨X, hX⟩ : ∃ X, fillP xs = X := ⟨_, rfl⟩
  obtain ⟨Y, hY⟩ : ∃ Y, fillP ys = Y := ⟨_, rfl⟩
  have hXl : X.length = 64 := by rw [← hX]; exact fillP_length _
  have hYl : Y.length = 64 := by rw [← hY]; exact fillP_length _
  have hp := p.toNat_lt
  obtain ⟨k, hk⟩ : ∃ k, p.toNat % 65 = k := ⟨_, rfl⟩
  have hk64 : k ≤ 64 := by omega
  have hrem := rem65 p
  rw [hk] at hrem
  have hw : IntKind.i64.wrap (p.toNat : Int) = (p.toNat : Int) := by rw [IntKind.wrap_i64]; omega
  have hw2 : IntKind.i64.wrap (k : Int) = (k : Int) := by rw [IntKind.wrap_i64]; omega
  have HN := Lib.hid hn
  have HN1 := Lib.hid hn1
  have HS := Lib.hid hs
  have HS1 := Lib.hid hs1
  have HX := Lib.hid hX
  have HY := Lib.hid hY
  have HK := Lib.hid hk
  have hkI : (k : Int) ≤ 64 := by omega
  have hk0 : (0 : Int) ≤ (k : Int) := by omega
  have HW1 : Hid (∀ W db g, DiskAt W w.heap.size db (live [zeros64] []) → Blk W g 5 (bts X).toArray → Calls Try.prog 13 #[.pointer (some ⟨db, 0, none⟩), .int .i64 0, .slice (some ⟨g, 0, none⟩) 64 64] W fun e w' => e = .returned (.int .i64 0) ∧ DiskAt w' w.heap.size db (live [zeros64] [(0, X)]) ∧ DM w.heap.size W w') := Lib.hid (fun W db g h hb => lwrite h (by simp) (i := 0) (by omega) (by simp) (Bs.blk hb hXl) hXl rfl)
  have HSY : Hid (∀ W db, DiskAt W w.heap.size db (live [zeros64] [(0, X)]) → Calls Try.prog 15 #[.pointer (some ⟨db, 0, none⟩)] W fun e w' => e = .returned (.int .i64 0) ∧ DiskAt w' w.heap.size db (live [X] []) ∧ DM w.heap.size W w') := Lib.hid (fun W db h => lsync h)
  have HW2 : Hid (∀ W db g, DiskAt W w.heap.size db (live [X] []) → Blk W g 5 (bts Y).toArray → Calls Try.prog 13 #[.pointer (some ⟨db, 0, none⟩), .int .i64 0, .slice (some ⟨g, 0, none⟩) 64 64] W fun e w' => e = .returned (.int .i64 0) ∧ DiskAt w' w.heap.size db (live [X] [(0, Y)]) ∧ DM w.heap.size W w') := Lib.hid (fun W db g h hb => lwrite h (by simp) (i := 0) (by omega) (by simp) (Bs.blk hb hYl) hYl rfl)
  have HC : Hid (∀ W db, DiskAt W w.heap.size db (live [X] [(0, Y)]) → Calls Try.prog 19 #[.pointer (some ⟨db, 0, none⟩), .slice (some ⟨W.heap.size, 0, none⟩) 1 1] (W.alloc (.cells #[.int .u8 (p.toNat : Int)] 5)) fun e w' => e = .returned (.tuple #[]) ∧ DiskAt w' w.heap.size db (live [tear k Y X] []) ∧ DM w.heap.size (W.alloc (.cells #[.int .u8 (p.toNat : Int)] 5)) w') := Lib.hid (fun W db h => by
    have := lcrash (h.nil ((Mods.refl Nil W).alloc (.cells #[.int .u8 (p.toNat : Int)] 5))) (pick_one W w.heap.size p) rfl
    rw [show crashL [X] [(0, Y)] [p] = [tear k Y X] by rw [← hk]; rfl] at this
    exact this)
  have HR : Hid (∀ W db, DiskAt W w.heap.size db (live [tear k Y X] []) → Calls Try.prog 23 #[.pointer (some ⟨db, 0, none⟩), .int .i64 0] W fun e w' => ∃ A c m, e = .returned (.tuple #[.slice A m c, .int .i64 0]) ∧ (tear k Y X).length = m ∧ m = 64 ∧ Sl w' A c (bts (tear k Y X)) ∧ Mods Nil W w') := Lib.hid (fun W db h => lread h (by omega) (by simp) rfl)
  clear hn hs hn1 hs1 hX hY hk h1 h2
  go_enter Try.func7, Try.ntmps7
  go_wp2_with (first
    | (go_at_call 9; refine (awake6_any _).mono ?_; rintro e w1 ⟨rfl, m1⟩; have M1 := Lib.hid m1; clear m1)
    | (go_at_call 10; refine (lnew w1 (base := w.heap.size) (n := 1) M1.out.size (by omega) (by omega) (by omega)).mono ?_; rintro e w2 ⟨db, rfl, d2, m2⟩; have D2 : Hid (DiskAt w2 w.heap.size db (live [zeros64] [])) := d2; have M2 := Lib.hid (M1.out.trans m2); clear d2 m2)
    | (go_at_call 12; refine (filled_any (HS1.out.mods M3.out (fun _ _ h => h)) HN1.out false).mono ?_; rintro e w4 ⟨g4, rfl, b4, s4, m4⟩; rw [HY.out] at b4; have B4 := Lib.hid b4; have B34 := Lib.hid (B3.out.mods m4 (fun h => h)); have D4 := Lib.hid (D3.out.nil m4); have M4 := Lib.hid (M3.out.trans m4); clear b4 s4 m4)
    | (go_at_call 12; refine (filled_any (HS.out.mods M2.out (fun _ _ h => h)) HN.out false).mono ?_; rintro e w3 ⟨g3, rfl, b3, s3, m3⟩; rw [HX.out] at b3; have B3 := Lib.hid b3; have D3 := Lib.hid (D2.out.nil m3); have M3 := Lib.hid (M2.out.trans m3); clear b3 s3 m3)
    | (go_at_call 15; refine (HSY.out _ _ D5.out).mono ?_; rintro e w6 ⟨rfl, d6, m6⟩; have D6 := Lib.hid d6; have B46 := Lib.hid (B45.out.dm m6 (by decide)); have B36 := Lib.hid (B35.out.dm m6 (by decide)); have M6 := Lib.hid (DM.nilTrans M5.out (Nat.le_refl _) m6); clear d6 m6)
    | (go_at_call_of 13 (Value.slice (some ⟨g4, 0, none⟩) 64 64); refine (HW2.out _ _ _ D6.out B46.out).mono ?_; rintro e w7 ⟨rfl, d7, m7⟩; have D7 := Lib.hid d7; have B47 := Lib.hid (B46.out.dm m7 (by decide)); have B37 := Lib.hid (B36.out.dm m7 (by decide)); have M7 := Lib.hid (DM.nilTrans M6.out (Nat.le_refl _) m7); clear d7 m7)
    | (go_at_call_of 13 (Value.slice (some ⟨g3, 0, none⟩) 64 64); refine (HW1.out _ _ _ D4.out B34.out).mono ?_; rintro e w5 ⟨rfl, d5, m5⟩; have D5 := Lib.hid d5; have B45 := Lib.hid (B4.out.dm m5 (by decide)); have B35 := Lib.hid (B34.out.dm m5 (by decide)); have M5 := Lib.hid (DM.nilTrans M4.out (Nat.le_refl _) m5); clear d5 m5)
    | (go_at_call 19; refine (HC.out _ _ D7.out).mono ?_; rintro e w8 ⟨rfl, d8, m8⟩; have D8 := Lib.hid d8; have B48 := Lib.hid ((B47.out.alloc _).dm m8 (by decide)); have B38 := Lib.hid ((B37.out.alloc _).dm m8 (by decide)); have M8 := Lib.hid (DM.nilTrans (M7.out.alloc _) (Nat.le_refl _) m8); clear d8 m8)
    | (go_at_call 23; refine (HR.out _ _ D8.out).mono ?_; rintro e w9 ⟨A9, c9, m9, rfl, h9, rfl, s9, k9⟩; have S9 := Lib.hid s9; have H9 := Lib.hid h9; have B49 := Lib.hid (B48.out.mods k9 (fun h => h)); have B39 := Lib.hid (B38.out.mods k9 (fun h => h)); have M9 := Lib.hid (M8.out.trans k9); clear s9 h9 k9))
  obtain ⟨A10, c10, q1, t1⟩ := slice_front S9.out H9.out hk64
  obtain ⟨A11, c11, q2, t2⟩ := slice_front (Bs.blk (base := 0) B49.out hYl).1 hYl hk64
  obtain ⟨A12, c12, q3, t3⟩ := slice_from S9.out H9.out hk64
  obtain ⟨A13, c13, q4, t4⟩ := slice_from (Bs.blk (base := 0) B39.out hXl).1 hXl hk64
  rw [tear_front hYl hk64] at t1
  rw [tear_back hYl hk64] at t3
  have hlf : (Y.take k).length = k := by simp; omega
  have hlb : (X.drop k).length = 64 - k := by simp; omega
  generalize Y.take k = F at t1 t2 hlf
  generalize X.drop k = G at t3 t4 hlb
  have v1 := fun W (h : Mods Nil w9 W) => conv6 hlf (t1.mods h (fun _ _ h => h))
  have v2 := fun W (h : Mods Nil w9 W) => conv6 hlf (t2.mods h (fun _ _ h => h))
  have v3 := fun W (h : Mods Nil w9 W) => conv6 hlb (t3.mods h (fun _ _ h => h))
  have v4 := fun W (h : Mods Nil w9 W) => conv6 hlb (t4.mods h (fun _ _ h => h))
  clear t1 t2 t3 t4 hlf hlb
  go_region_held (fun W => Mods Nil w9 W) (first | exact (Mods.refl Nil w9).drew | assumption) (fail)
  all_goals
    go_wp2
    go_ret
    exact ⟨rfl, M9.out.trans (by assumption)⟩
end Go.Proofs.Ytahahnapnfalcaa
