/- CellBig's walk. -/
import Derived.Test.YtgpnddgkbjlehaaAwake08
namespace Go.Proofs.Ytgpnddgkbjlehaa
set_option maxRecDepth 1000000
open Go.RowKit
set_option linter.unusedVariables false

set_option maxHeartbeats 3200000 in
theorem cellBig_walk (w : World) {A : Option Addr} {c n : Nat} {xs : List UInt8} (hn : xs.length = n) (hs : Sl w A c (bts xs)) {A1 : Option Addr} {c1 m : Nat} {ys : List UInt8} (hm : ys.length = m) (hs1 : Sl w A1 c1 (bts ys)) :
    Calls Try.prog 8 #[.slice A n c, .slice A1 m c1] w fun e w' => e = .returned (.bool true) ∧ Mods Nil w w' := by
  by_cases h43 : 43 < n
  · have hI : (43 : Int) < (n : Int) := by omega
    clear hn hs hm hs1 h43
    go_enter Try.func8, Try.ntmps8
    go_wp2_with (go_at_call 30; refine (awake8_any _).mono ?_; rintro e w1 ⟨rfl, m1⟩; have M1 := Lib.hid m1; clear m1)
    go_ret
    exact ⟨rfl, M1.out⟩
  have hI : (n : Int) ≤ 43 := by omega
  by_cases h44 : m < 44
  · have hJ : (m : Int) < 44 := by omega
    clear hn hs hm hs1 h44 h43
    go_enter Try.func8, Try.ntmps8
    go_wp2_with (go_at_call 30; refine (awake8_any _).mono ?_; rintro e w1 ⟨rfl, m1⟩; have M1 := Lib.hid m1; clear m1)
    go_ret
    exact ⟨rfl, M1.out⟩
  have hJ : (44 : Int) ≤ (m : Int) := by omega
  by_cases h200 : 200 < m
  · have hK : (200 : Int) < (m : Int) := by omega
    clear hn hs hm hs1 h44 h43 h200
    go_enter Try.func8, Try.ntmps8
    go_wp2_with (go_at_call 30; refine (awake8_any _).mono ?_; rintro e w1 ⟨rfl, m1⟩; have M1 := Lib.hid m1; clear m1)
    go_ret
    exact ⟨rfl, M1.out⟩
  have hK : (m : Int) ≤ 200 := by omega
  have HS := Lib.hid hs
  have HN := Lib.hid hn
  have H43 := Lib.hid (show n ≤ 43 by omega)
  have H44 := Lib.hid (show 43 < m by omega)
  obtain ⟨L1, hL1⟩ : ∃ L, (List.replicate 2 zeros64).set 0 (layC 1 xs) = L := ⟨_, rfl⟩
  obtain ⟨k1, hk1⟩ : ∃ k, (cellNew 0).tell xs = k := ⟨_, rfl⟩
  have HSET : Hid (∀ (W : World) (cb db : Nat), At8 W w.heap.size cb db 0 (List.replicate 2 zeros64) (cellNew 0) → Sl W A c (bts xs) → Calls Try.prog 33 #[.pointer (some ⟨cb, 0, none⟩), .slice A n c] W fun e w' => e = .returned (.int .i64 0) ∧ At8 w' w.heap.size cb db 0 L1 k1 ∧ CM w.heap.size W w') := Lib.hid (fun W cb db h hsl => by
    have := a8set h hsl hn (by omega) (by simp [cellNew])
    rw [hk1, show (cellNew 0).great + 1 = 1 from rfl, show 0 + (cellNew 0).spare = 0 from rfl, hL1] at this
    exact this)
  have hd : k1.data = xs := by rw [← hk1]; exact PCell.tell_data _ (by omega)
  have ht : k1.turn = 1 := by rw [← hk1]; exact cellNew_tell_turn 0 xs
  have hgr : k1.great + 1 < 18446744073709551616 := by rw [← hk1]; simp [PCell.tell, cellNew]
  have HD := Lib.hid hd
  have HT := Lib.hid ht
  have HGR := Lib.hid hgr
  obtain ⟨i0, hi, hz0, hz1, hz2⟩ := info_parts infoByte
  obtain ⟨L2, hL2⟩ : ∃ L, L1.set (0 + k1.spare) (layC (k1.great + 1) (List.replicate 43 0)) = L := ⟨_, rfl⟩
  obtain ⟨k2, hk2⟩ : ∃ k, k1.tell (List.replicate 43 0) = k := ⟨_, rfl⟩
  have HSET2 : Hid (∀ (W : World) (cb db : Nat) (A : Option Addr) (c : Nat), At8 W w.heap.size cb db 0 L1 k1 → Sl W A c (bts (List.replicate 43 0)) → Calls Try.prog 33 #[.pointer (some ⟨cb, 0, none⟩), .slice A 43 c] W fun e w' => e = .returned (.int .i64 0) ∧ At8 w' w.heap.size cb db 0 L2 k2 ∧ CM w.heap.size W w') := Lib.hid (fun W cb db A c h hsl => by
    have := a8set h hsl (n := 43) (by simp) (by omega) hgr
    rw [hk2, hL2] at this
    exact this)
  have HD2 : Hid (k2.data = List.replicate 43 0) := Lib.hid (by rw [← hk2]; exact PCell.tell_data _ (by simp))
  clear hn hs hm hs1 h43 h44 h200 hL1 hk1 hL2 hk2 hd ht hgr
  go_enter Try.func8, Try.ntmps8
  go_wp2_with (first
    | (go_at_call 30; refine (awake8_any _).mono ?_; rintro e w1 ⟨rfl, m1⟩; have M1 := Lib.hid m1; clear m1)
    | (go_at_call 10; refine (lnew w1 (base := w.heap.size) (n := 2) (k := 2) M1.out.size rfl (by omega) (by omega)).mono ?_; rintro e w2 ⟨db, rfl, d2, m2⟩; have D2 := Lib.hid d2; have M2 := Lib.hid (M1.out.trans m2); clear d2 m2)
    | (go_at_call 31; refine (a8new (at_ := 0) (i := 0) D2.out M2.out.size (by omega) (by omega) rfl).mono ?_; rintro e w3 ⟨cb, rfl, a3, m3⟩; have A3 := Lib.hid a3; have M3 := Lib.hid (M2.out.trans m3); clear a3 m3)
    | (go_at_call 33; refine (a8big A4.out H44.out).mono ?_; rintro e w5 ⟨rfl, rfl⟩)
    | (go_at_call 33; refine (HSET.out _ _ _ A3.out (HS.out.mods M3.out (fun _ _ h => h))).mono ?_; rintro e w4 ⟨rfl, a4, m4⟩; have A4 := Lib.hid a4; have M4 := Lib.hid (CM.nilTrans M3.out (Nat.le_refl _) m4); clear a4 m4)
    | (at_make; refine wpList_make_full _ rfl _ _ _ rfl w4.heap.size 5 i0 (.int .u8 0) 1 Try.underlying42 hi hz0 hz1 _ _ _ _ 43 rfl rfl (by omega) (by omega) (by rw [hz2]; omega) (by unfold maxLen; omega) (Nat.le_refl _) ?_; intro w6 hown hgrow; have q6 := Mods.ofGrown hgrow; have M6 := Lib.hid (M4.out.trans q6); have A6 := Lib.hid (A4.out.nil q6); rw [made_bytes8] at hown; obtain ⟨A2, c2, hv2, -, s2, -⟩ := own_slice hown; injection hv2 with e1 e2 e3; subst e1; subst e3; have S6 := Lib.hid s2; clear hown hgrow s2 e2 q6))
  have v1 := fun W (h : Mods Nil w W) => conv8 HN.out (HS.out.mods h (fun _ _ h => h))
  go_region_held (fun W => Mods Nil w W) (first | exact M6.out.drew | assumption) (first
    | (go_at_call 37; refine (a8get A9.out HD2.out (n := 43) (by simp)).mono ?_; rintro e w10 ⟨A10, c10, rfl, s10, m10⟩; have M10 := M9.out.trans m10; clear s10 m10)
    | (go_at_call 33; refine (HSET2.out _ _ _ _ _ A8.out (S6.out.mods m78.out (fun _ _ h => h))).mono ?_; rintro e w9 ⟨rfl, a9, m9⟩; have A9 := Lib.hid a9; have M9 := Lib.hid (CM.nilTrans M8.out (Nat.le_refl _) m9); have M9' := M9.out; clear a9 m9)
    | (go_at_call 38; refine (a8turn A7.out HT.out (y := 1) rfl).mono ?_; rintro e w8 ⟨rfl, m8⟩; have A8 := Lib.hid (A7.out.nil m8); have M8 := Lib.hid (M7.out.trans m8); have m78 := Lib.hid (m67.out.trans m8); have M8' := M8.out; clear m8)
    | (go_at_call 37; refine (a8get (A6.out.nil (Mods.refl Nil w6).drew) HD.out HN.out).mono ?_; rintro e w7 ⟨A7, c7, rfl, s7, m7⟩; have A7 := Lib.hid ((A6.out.nil (Mods.refl Nil w6).drew).nil m7); have v7 := conv8 HN.out s7; have m67 : Hid (Mods Nil w6 w7) := Lib.hid ((Mods.refl Nil w6).drew.trans m7); have M7 := Lib.hid (M6.out.trans m67.out); have M7' := M7.out; clear s7 m7))
  all_goals
    go_wp2_with fail
    go_ret
    exact ⟨rfl, by assumption⟩
end Go.Proofs.Ytgpnddgkbjlehaa
