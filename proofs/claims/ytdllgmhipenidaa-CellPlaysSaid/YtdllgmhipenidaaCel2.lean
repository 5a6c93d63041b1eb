/- Package cell: turns compared, taken out of blocks, counted. -/
import Derived.Test.YtdllgmhipenidaaCel1
namespace Go.Proofs.Ytdllgmhipenidaa
set_option maxRecDepth 100000
open Go.RowKit
set_option linter.unusedVariables false

theorem compare_gt {x y : Nat} (hx : x < 18446744073709551616) (hy : y < 18446744073709551616) : decide (Go.Lib.compareBytes (eight x) (eight y) > 0) = decide (y < x) := by
  rw [cmp_num _ _ (by rw [eight_length, eight_length]), num8_eight hx, num8_eight hy, Bool.eq_iff_iff]
  simp only [decide_eq_true_eq]
  split
  · omega
  · split <;> omega
theorem cabove_any (w : World) {x y : Nat} (hx : x < 18446744073709551616) (hy : y < 18446744073709551616) : Calls Try.prog 93 #[.agg (bts (eight x)).toArray, .agg (bts (eight y)).toArray] w fun e w' => e = .returned (.bool (decide (y < x))) ∧ Mods Nil w w' := by
  obtain ⟨W0, hW0⟩ : ∃ W, w.alloc (.cells (bts (eight x)).toArray 144) = W := ⟨_, rfl⟩
  obtain ⟨W, hW⟩ : ∃ W, W0.alloc (.cells (bts (eight y)).toArray 144) = W := ⟨_, rfl⟩
  have HM : Hid (Mods Nil w W) := by rw [← hW, ← hW0]; exact ((Mods.refl Nil w).alloc _).alloc _
  have R1 : Hid (∀ V, Mods Nil W V → V.rangeAt w.heap.size 0 (bts (eight x))) := by
    subst hW; subst hW0
    exact Lib.hid (fun V hm => blkL_range (((Blk.new w 144 (bts (eight x)).toArray).alloc _).mods hm (fun h => h)))
  have R2 : Hid (∀ V, Mods Nil W V → V.rangeAt W0.heap.size 0 (bts (eight y))) := by
    subst hW
    exact Lib.hid (fun V hm => blkL_range ((Blk.new W0 144 (bts (eight y)).toArray).mods hm (fun h => h)))
  have HC : Hid (∀ V, Mods Nil W V → Calls Try.prog 125 #[.slice (some ⟨w.heap.size, 0, none⟩) 8 8, .slice (some ⟨W0.heap.size, 0, none⟩) 8 8] V fun e V' => e = .returned (.int .i64 (Go.Lib.compareBytes (eight x) (eight y))) ∧ Mods Nil W V') := Lib.hid (fun V hV => by
    refine (ccompare_any (eight_length x) (eight_length y) (R1.out V hV) (R2.out V hV)).mono ?_
    rintro e V' ⟨rfl, rfl⟩
    exact ⟨rfl, hV⟩)
  have hq := compare_gt hx hy
  rw [← hq]
  clear hq hx hy
  generalize Go.Lib.compareBytes (eight x) (eight y) = z at *
  go_enter Try.func93, Try.ntmps93
  go_wp2_with fail
  refine gq_region (by kernel_rfl) (by kernel_rfl) ?_
  repeat (first
    | go_big_quiet_skip
    | (go_big_quiet_want; first
        | (refine gq_call HC.out ?_ ?_; (focus (intro V; go_simp; done)); go_big_quiet_on)
        | (refine gq_op (v := ?_) ?_ ?_; rotate_left; (focus (intro V hV; go_simp; try with_reducible rfl)); go_big_quiet_on))
      simp only [Act.put, List.setIfInBounds_toArray, List.set_cons_zero, List.set_cons_succ])
  refine wpQuiet_nil ?_
  intro V hV
  go_wp2_with fail
  go_ret
  exact ⟨rfl, HM.out.trans hV⟩
theorem clater_any (w : World) {x y : Nat} (hx : x < 18446744073709551616) (hy : y < 18446744073709551616) : Calls Try.prog 90 #[.agg (bts (eight x)).toArray, .agg (bts (eight y)).toArray] w fun e w' => e = .returned (.agg (bts (eight (max x y))).toArray) ∧ Mods Nil w w' := by
  obtain ⟨W0, hW0⟩ : ∃ W, w.alloc (.cells (bts (eight x)).toArray 144) = W := ⟨_, rfl⟩
  obtain ⟨W1, hW1⟩ : ∃ W, W0.alloc (.cells (bts (eight y)).toArray 144) = W := ⟨_, rfl⟩
  have HM : Hid (Mods Nil w W1) := by rw [← hW1, ← hW0]; exact ((Mods.refl Nil w).alloc _).alloc _
  have B1 : Hid (Blk W1 w.heap.size 144 (bts (eight x)).toArray) := by
    subst hW1; subst hW0
    exact Lib.hid ((Blk.new w 144 (bts (eight x)).toArray).alloc _)
  have B2 : Hid (Blk W1 W0.heap.size 144 (bts (eight y)).toArray) := by
    subst hW1
    exact Lib.hid (Blk.new W0 144 (bts (eight y)).toArray)
  have HS : Hid (w.heap.size ≤ W1.heap.size) := Lib.hid HM.out.size
  have HA := Lib.hid (fun V => cabove_any V hx hy)
  by_cases hxy : y < x
  · have e : max x y = x := by omega
    rw [e]
    rw [decide_eq_true hxy] at HA
    clear hx hy hxy e
    go_enter Try.func90, Try.ntmps90
    go_wp2_with (first
      | (refine gw_alloc_of run_alloc_ct rfl rfl ?_; intro W2 b9 m9 s9; have B3 := Lib.hid b9; have B12 := Lib.hid (B1.out.mods m9 (fun h => h)); have B22 := Lib.hid (B2.out.mods m9 (fun h => h)); have M2 := Lib.hid (HM.out.trans m9); clear b9 m9 s9)
      | (go_at_call 93; refine (HA.out _).mono ?_; rintro e W3 ⟨rfl, m9⟩; have B33 := Lib.hid (B3.out.mods m9 (fun h => h)); have B13 := Lib.hid (B12.out.mods m9 (fun h => h)); have M3 := Lib.hid (M2.out.trans m9); clear m9)
      | (refine gw_load_mid (by rfl) 144 (.tmp 8) rfl w.heap.size 0 rfl (bts (eight x)) _ (blkL_range B13.out) Try.underlying144 rfl (infoCTl x) ?_)
      | (refine gw_load_mid (by rfl) 144 _ rfl w.heap.size 0 rfl (bts (eight x)) _ (blkL_range B13.out) Try.underlying144 rfl (infoCTl x) ?_)
      | (refine gw_load_mid (by rfl) 144 _ rfl w.heap.size 0 rfl (bts (eight x)) _ (blkL_range B12.out) Try.underlying144 rfl (infoCTl x) ?_)
      | (refine gw_load_mid (by rfl) 144 _ rfl W0.heap.size 0 rfl (bts (eight y)) _ (blkL_range B22.out) Try.underlying144 rfl (infoCTl y) ?_)
      | (refine wpList_store_mk rfl 144 (.tmp 4) (.tmp 8) rfl rfl W1.heap.size rfl 144 (bts (eight 0)).toArray (bts (eight x)).toArray rfl B33.out (by rw [btsA_size, btsA_size]; rfl) (btsA_all _) (infoCTa x) rfl ?_; intro W4 b9 m9; have B4 := Lib.hid b9; have M4 := Lib.hid (M3.out.nil_trans m9 (fun i hi => by have := HS.out; omega)); clear b9 m9))
    refine bodyPost_ret (results_cell_row rfl _ _ W1.heap.size 144 (bts (eight x)).toArray (0, 0) _ rfl B4.out Try.underlying144 rfl (infoCTa x)) rfl ?_
    exact ⟨rfl, M4.out⟩
  · have e : max x y = y := by omega
    rw [e]
    rw [decide_eq_false hxy] at HA
    clear hx hy hxy e
    go_enter Try.func90, Try.ntmps90
    go_wp2_with (first
      | (refine gw_alloc_of run_alloc_ct rfl rfl ?_; intro W2 b9 m9 s9; have B3 := Lib.hid b9; have B12 := Lib.hid (B1.out.mods m9 (fun h => h)); have B22 := Lib.hid (B2.out.mods m9 (fun h => h)); have M2 := Lib.hid (HM.out.trans m9); clear b9 m9 s9)
      | (go_at_call 93; refine (HA.out _).mono ?_; rintro e W3 ⟨rfl, m9⟩; have B33 := Lib.hid (B3.out.mods m9 (fun h => h)); have B23 := Lib.hid (B22.out.mods m9 (fun h => h)); have M3 := Lib.hid (M2.out.trans m9); clear m9)
      | (refine gw_load_mid (by rfl) 144 _ rfl W0.heap.size 0 rfl (bts (eight y)) _ (blkL_range B23.out) Try.underlying144 rfl (infoCTl y) ?_)
      | (refine gw_load_mid (by rfl) 144 _ rfl w.heap.size 0 rfl (bts (eight x)) _ (blkL_range B12.out) Try.underlying144 rfl (infoCTl x) ?_)
      | (refine gw_load_mid (by rfl) 144 _ rfl W0.heap.size 0 rfl (bts (eight y)) _ (blkL_range B22.out) Try.underlying144 rfl (infoCTl y) ?_)
      | (refine wpList_store_mk rfl 144 (.tmp 4) (.tmp 9) rfl rfl W1.heap.size rfl 144 (bts (eight 0)).toArray (bts (eight y)).toArray rfl B33.out (by rw [btsA_size, btsA_size]; rfl) (btsA_all _) (infoCTa y) rfl ?_; intro W4 b9 m9; have B4 := Lib.hid b9; have M4 := Lib.hid (M3.out.nil_trans m9 (fun i hi => by have := HS.out; omega)); clear b9 m9))
    refine bodyPost_ret (results_cell_row rfl _ _ W1.heap.size 144 (bts (eight y)).toArray (0, 0) _ rfl B4.out Try.underlying144 rfl (infoCTa y)) rfl ?_
    exact ⟨rfl, M4.out⟩
theorem cturn_any (w : World) {b : List UInt8} (h : b.length = 64) {k : Nat} (hk : k ≤ 56) : Calls Try.prog 91 #[.agg (bts b).toArray, .int .i64 (k : Int)] w fun e w' => e = .returned (.agg (bts (eight (turnN b k))).toArray) ∧ Mods Nil w w' := by
  obtain ⟨W0, hW0⟩ : ∃ W, w.alloc (.cells (bts b).toArray 142) = W := ⟨_, rfl⟩
  have HM : Hid (Mods Nil w W0) := by rw [← hW0]; exact (Mods.refl Nil w).alloc _
  have B0 : Hid (Blk W0 w.heap.size 142 (bts b).toArray) := by rw [← hW0]; exact Lib.hid (Blk.new w 142 (bts b).toArray)
  have HE := Lib.hid (eight_turnN h hk)
  obtain ⟨x, hx⟩ : ∃ x, turnN b k = x := ⟨_, rfl⟩
  rw [hx] at HE
  rw [hx]
  have hkI : (k : Int) ≤ 56 := by omega
  have hkI2 : (k : Int) ≤ 64 := by omega
  have hk0 : (0 : Int) ≤ (k : Int) := by omega
  have hkn : ¬ 64 = k := by omega
  have hkn2 : ¬ 64 - k = 0 := by omega
  have HK := Lib.hid hk
  clear h hx hk
  go_enter Try.func91, Try.ntmps91
  go_wp2_with (first
    | (refine gw_alloc_of run_alloc_ct rfl rfl ?_; intro W2 b9 m9 s9; have B2 := Lib.hid b9; have B12 := Lib.hid (B1.out.mods m9 (fun h => h)); have B02 := Lib.hid (B01.out.mods m9 (fun h => h)); have M2 := Lib.hid (M1.out.trans m9); have S2 := Lib.hid (show w.heap.size ≤ W1.heap.size from M1.out.size); have N2 := Lib.hid (show W0.heap.size ≠ W1.heap.size from by have := S1.out; omega); clear b9 m9 s9)
    | (refine gw_alloc_of run_alloc_ct rfl rfl ?_; intro W1 b9 m9 s9; have B1 := Lib.hid b9; have B01 := Lib.hid (B0.out.mods m9 (fun h => h)); have M1 := Lib.hid (HM.out.trans m9); have S1 := Lib.hid s9; clear b9 m9 s9))
  go_still_tail 3, (by kernel_rfl)
  refine wpList_copy_cut rfl (.tmp 6) (.tmp 8) 42 42 rfl 5 Try.underlying42 infoCU W1.heap.size 0 8 8 144 (bts (eight 0)).toArray (bts (eight x)).toArray rfl B2.out.drew w.heap.size k (64 - k) (64 - k) (bts (eight x)) rfl (by rw [bts_length, eight_length]; exact (Nat.min_eq_right (by have := HK.out; omega)).symm) ?_ (bts_one _) (by rw [bts_length, eight_length, btsA_size, eight_length]; omega) (by simp [eight_length, bts]) ?_
  · rw [HE.out]
    have := range_cut (blkL_range B02.out.drew) k 8
    rwa [Nat.zero_add] at this
  intro W3 b9 m9
  have B3 := Lib.hid b9
  have B13 := Lib.hid (B12.out.drew.mods m9 N2.out)
  have M3 := Lib.hid (M2.out.drew.nil_trans m9 (fun i hi => by have := S2.out; omega))
  clear b9 m9
  go_wp2_with (first
    | (refine gw_load_mid (by rfl) 144 _ rfl W1.heap.size 0 rfl (bts (eight x)) _ (blkL_range B3.out) Try.underlying144 rfl (infoCTl x) ?_)
    | (refine wpList_store_mk rfl 144 (.tmp 4) (.tmp 10) rfl rfl W0.heap.size rfl 144 (bts (eight 0)).toArray (bts (eight x)).toArray rfl B13.out (by rw [btsA_size, btsA_size]; rfl) (btsA_all _) (infoCTa x) rfl ?_; intro W4 b9 m9; have B4 := Lib.hid b9; have M4 := Lib.hid (M3.out.nil_trans m9 (fun i hi => by have := HM.out.size; omega)); clear b9 m9))
  refine bodyPost_ret (results_cell_row rfl _ _ W0.heap.size 144 (bts (eight x)).toArray (0, 0) _ rfl B4.out Try.underlying144 rfl (infoCTa x)) rfl ?_
  exact ⟨rfl, M4.out⟩
end Go.Proofs.Ytdllgmhipenidaa
