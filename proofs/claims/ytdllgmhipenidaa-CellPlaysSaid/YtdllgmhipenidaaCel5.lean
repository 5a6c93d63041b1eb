/- Package cell: turns that are the same; what a block has; whether it is right. -/
import Derived.Test.YtdllgmhipenidaaCel4
import Derived.Stop.BytesEq
namespace Go.Proofs.Ytdllgmhipenidaa
set_option maxRecDepth 100000
open Go.RowKit
set_option linter.unusedVariables false

theorem run_equal_turns (W : World) {x y : Nat} (hx : x < 18446744073709551616) (hy : y < 18446744073709551616) :
    (Op.equalIn 10000 144 (.agg (bts (eight x)).toArray) (.agg (bts (eight y)).toArray)).run Try.prog W = .ok (decide (x = y)) W := by
  have := run_equalIn_bytes (P := Try.prog) W 9998 144 5 8 Try.underlying144 Try.underlying5 (fun w => by rfl) (eight x) (eight y) (eight_length x) (eight_length y)
  have e : (eight x == eight y) = decide (x = y) := by
    rw [Bool.eq_iff_iff]
    simp only [beq_iff_eq, decide_eq_true_eq]
    exact ⟨fun h => eight_inj hx hy h, fun h => by rw [h]⟩
  rw [e] at this
  exact this
theorem cb_cell {w : World} {g : Nat} {t : TypeId} {b : List UInt8} (hB : Blk w g t (bts b).toArray) {i : Nat} (hi : i < b.length) : w.cell? ⟨g, i, none⟩ = some (.int .u8 ((b.getD i 0).toNat : Int)) := by
  rw [hB.cat hi]
  simp [List.getD_eq_getElem?_getD, hi]
theorem cdata_any (w : World) {b : List UInt8} (h : b.length = 64) {q : Nat} (hq : (b.getD 8 0).toNat = q) (hq43 : q ≤ 43) : Calls Try.prog 100 #[.agg (bts b).toArray] w fun e w' => ∃ c, e = .returned (.slice (some ⟨w.heap.size, 9, none⟩) q c) ∧ (dataC b).length = q ∧ Sl w' (some ⟨w.heap.size, 9, none⟩) c (bts (dataC b)) ∧ Mods Nil w w' := by
  obtain ⟨W, hW⟩ : ∃ W, w.alloc (.cells (bts b).toArray 142) = W := ⟨_, rfl⟩
  have HM : Hid (Mods Nil w W) := by rw [← hW]; exact (Mods.refl Nil w).alloc _
  have B0 : Hid (Blk W w.heap.size 142 (bts b).toArray) := by rw [← hW]; exact Lib.hid (Blk.new w 142 (bts b).toArray)
  have c8 := cb_cell B0.out (i := 8) (by omega)
  rw [hq] at c8
  have hl : (dataC b).length = q := by unfold dataC; rw [hq, List.length_take, List.length_drop]; omega
  have hw : IntKind.i64.wrap (q : Int) = (q : Int) := by rw [IntKind.wrap_i64]; omega
  have hw2 : IntKind.i64.wrap (9 + (q : Int)) = 9 + (q : Int) := by rw [IntKind.wrap_i64]; omega
  have hI2 : 9 + (q : Int) ≤ 64 := by omega
  have hI3 : (9 : Int) ≤ 9 + (q : Int) := by omega
  have hN : (9 + (q : Int)).toNat = 9 + q := by omega
  have hN2 : 9 + q - 9 = q := by omega
  have HS : Hid (∀ c', 55 = c' → Sl W (some ⟨w.heap.size, 9, none⟩) c' (bts (dataC b))) := Lib.hid (fun c' hc => by
    subst hc
    refine range_sl ?_ (by omega) (by unfold maxLen; omega)
    have := range_cut (blkL_range B0.out) 9 q
    rw [Nat.zero_add] at this
    unfold dataC
    rw [hq]
    exact this)
  have HL := Lib.hid hl
  clear h hq hl
  go_enter Try.func100, Try.ntmps100
  go_wp2_with fail
  go_ret
  exact ⟨_, rfl, HL.out, HS.out _ (by omega), HM.out⟩
theorem gq_build0 {C : World → Prop} {K : Act → Prop} {a : Act} {o : Oper} (ho : o.op = .build 144 #[]) (hb : Try.prog.built 144 [] = some (bts (eight 0)).toArray) (hk : K (a.put o.dst (.agg (bts (eight 0)).toArray))) : o.quiet Try.prog a C K :=
  gq_op (fun w hw => by
    unfold execOp
    simp only [ho, Array.map_empty, Sem.run_bind, run_build w _ #[] _ hb, Result.andThen_ok, Sem.run_pure]) hk
theorem right_of_mods {W : World} {g : Nat} {b : List UInt8} {r : Bool} (R1 : ∀ V, Mods Nil W V → V.rangeAt g 0 (bts b)) (h56 : (b.take 56).length = 56) (hr : rightOf (b.take 56) = r) {V : World} (hm : Mods Nil W V) :
    Calls Try.prog 124 #[.slice (some ⟨g, 0, none⟩) 56 64] V fun e V' => e = .returned (.bool r) ∧ Mods Nil V V' := by
  subst hr
  refine right_any h56 ?_
  refine range_sl ?_ (by omega) (by unfold maxLen; omega)
  have := range_cut (R1 V hm) 0 56
  rwa [List.drop_zero] at this
set_option maxHeartbeats 3200000 in
theorem cright_any (w : World) {b : List UInt8} (h : b.length = 64) : Calls Try.prog 92 #[.agg (bts b).toArray] w fun e w' => e = .returned (.bool (rightC b)) ∧ Mods Nil w w' := by
  obtain ⟨W, hW⟩ : ∃ W, w.alloc (.cells (bts b).toArray 142) = W := ⟨_, rfl⟩
  have HM : Hid (Mods Nil w W) := by rw [← hW]; exact (Mods.refl Nil w).alloc _
  have B0 : Hid (Blk W w.heap.size 142 (bts b).toArray) := by rw [← hW]; exact Lib.hid (Blk.new w 142 (bts b).toArray)
  have HCELL : Hid (∀ V, Mods Nil W V → V.cell? ⟨w.heap.size, 8, none⟩ = some (.int .u8 ((b.getD 8 0).toNat : Int))) := Lib.hid (fun V hm => cb_cell (B0.out.mods hm (fun h => h)) (by omega))
  have h56 : (b.take 56).length = 56 := by simp; omega
  have R1 : Hid (∀ V, Mods Nil W V → V.rangeAt w.heap.size 0 (bts b)) := Lib.hid (fun V hm => blkL_range (B0.out.mods hm (fun h => h)))
  have hB56 := Lib.hid h56
  have hinfo := Lib.hid (infoCBl h)
  have HT0 := Lib.hid (fun V => cturn_any V h (k := 0) (by omega))
  have HT5 := Lib.hid (fun V => cturn_any V h (k := 56) (by omega))
  have hx0 := turnN_lt h (k := 0) (by omega)
  have hx5 := turnN_lt h (k := 56) (by omega)
  have b8 := (b.getD 8 0).toNat_lt
  have hq : rightC b = (rightOf (b.take 56) && decide (turnN b 0 = turnN b 56) && decide (turnN b 0 ≠ 0) && decide ((b.getD 8 0).toNat ≤ 43)) := rfl
  rw [hq]
  clear h56 hq
  obtain ⟨x, hx⟩ : ∃ x, turnN b 0 = x := ⟨_, rfl⟩
  obtain ⟨y, hy⟩ : ∃ y, turnN b 56 = y := ⟨_, rfl⟩
  obtain ⟨z, hz⟩ : ∃ z, (b.getD 8 0).toNat = z := ⟨_, rfl⟩
  obtain ⟨r, hr⟩ : ∃ r, rightOf (b.take 56) = r := ⟨_, rfl⟩
  rw [hx] at HT0 hx0
  rw [hy] at HT5 hx5
  rw [hz] at HCELL b8
  rw [hx, hy, hz, hr]
  have heq := fun V => run_equal_turns V hx0 hx5
  have hne := fun V => run_equal_turns V hx0 (y := 0) (by omega)
  have hr := Lib.hid hr
  clear hx hy hz h hx0 hx5
  cases r with
  | false =>
    clear heq hne
    go_enter Try.func92, Try.ntmps92
    go_wp2_with (first
      | (refine gw_alloc_of run_alloc_ct rfl rfl ?_; intro W2 b9 m9 s9; have B2 := Lib.hid b9; have M2 := Lib.hid (M1.out.trans m9); have S2 := Lib.hid (show W.heap.size ≤ W1.heap.size from M1.out.size); clear b9 m9 s9)
      | (refine wpList_store_mk rfl 144 (.tmp 3) (.tmp 5) rfl rfl W1.heap.size rfl 144 (bts (eight 0)).toArray (bts (eight x)).toArray rfl B2.out (by rw [btsA_size, btsA_size]; rfl) (btsA_all _) (infoCTa x) rfl ?_; intro W3 b9 m9; have B3 := Lib.hid b9; have M3 := Lib.hid (M2.out.nil_trans m9 (fun i hi => by have := S2.out; omega)); clear b9 m9)
      | (refine gw_load_mid (by rfl) 142 _ rfl _ _ rfl (bts b) _ (R1.out W (Mods.refl Nil W)) Try.underlying142 rfl hinfo.out ?_)
      | (go_at_call 91; refine (HT0.out _).mono ?_; rintro e W1 ⟨rfl, m9⟩; have M1 := Lib.hid m9; clear m9))
    have R3 : Hid (∀ V, Mods Nil W3 V → V.rangeAt W1.heap.size 0 (bts (eight x))) := Lib.hid (fun V hm => blkL_range (B3.out.mods hm (fun h => h)))
    have R13 : Hid (∀ V, Mods Nil W3 V → V.rangeAt w.heap.size 0 (bts b)) := Lib.hid (fun V hm => R1.out V (M3.out.trans hm))
    have HR3 : Hid (∀ V, Mods Nil W3 V → Calls Try.prog 124 #[.slice (some ⟨w.heap.size, 0, none⟩) 56 64] V fun e V' => e = .returned (.bool false) ∧ Mods Nil W3 V') := Lib.hid (fun V hm => ((right_of_mods R1.out hB56.out hr.out (M3.out.trans hm)).mono fun e V' h => ⟨h.1, hm.trans h.2⟩))
    have HT53 := Lib.hid (gq_of (W := W3) (fun V => HT5.out V))
    have c8 : ∀ V, Mods Nil W3 V → V.cell? ⟨w.heap.size, 8, none⟩ = some (.int .u8 (z : Int)) := fun V hm => HCELL.out V (M3.out.trans hm)
    refine gq_region (by kernel_rfl) (by kernel_rfl) ?_
    simp only [Act.put, List.setIfInBounds_toArray, List.set_cons_zero, List.set_cons_succ]
    repeat (first
      | go_big_quiet_skip
      | (go_big_quiet_want; first
          | (refine gq_load_row 144 _ rfl W1.heap.size 0 rfl (bts (eight x)) _ R3.out Try.underlying144 rfl (infoCTl x) ?_; go_big_quiet_on)
          | (refine gq_load_row 142 _ rfl w.heap.size 0 rfl (bts b) _ R13.out Try.underlying142 rfl hinfo.out ?_; go_big_quiet_on)
          | (refine gq_call HR3.out ?_ ?_; (focus (intro V; go_simp; done)); go_big_quiet_on)
          | (refine gq_call HT53.out ?_ ?_; (focus (intro V; go_simp; done)); go_big_quiet_on)
          | (refine gq_build0 rfl (by rfl) ?_; go_big_quiet_on)
          | (refine gq_op (v := ?_) ?_ ?_; rotate_left; (focus (intro V hV; go_simp; try with_reducible rfl)); go_big_quiet_on))
        simp only [Act.put, List.setIfInBounds_toArray, List.set_cons_zero, List.set_cons_succ])
    refine wpQuiet_nil ?_
    intro V hV
    go_wp2_with fail
    go_ret
    exact ⟨rfl, HM.out.trans (M3.out.trans hV)⟩
  | true =>
    by_cases hxy : x = y
    · subst hxy
      rw [decide_eq_true rfl] at heq
      by_cases hx0 : x = 0
      · rw [decide_eq_true hx0] at hne
        have HX0 := Lib.hid hx0
        clear hx0
        go_enter Try.func92, Try.ntmps92
        go_wp2_with (first
          | (refine gw_alloc_of run_alloc_ct rfl rfl ?_; intro W2 b9 m9 s9; have B2 := Lib.hid b9; have M2 := Lib.hid (M1.out.trans m9); have S2 := Lib.hid (show W.heap.size ≤ W1.heap.size from M1.out.size); clear b9 m9 s9)
          | (refine wpList_store_mk rfl 144 (.tmp 3) (.tmp 5) rfl rfl W1.heap.size rfl 144 (bts (eight 0)).toArray (bts (eight x)).toArray rfl B2.out (by rw [btsA_size, btsA_size]; rfl) (btsA_all _) (infoCTa x) rfl ?_; intro W3 b9 m9; have B3 := Lib.hid b9; have M3 := Lib.hid (M2.out.nil_trans m9 (fun i hi => by have := S2.out; omega)); clear b9 m9)
          | (refine gw_load_mid (by rfl) 142 _ rfl _ _ rfl (bts b) _ (R1.out W (Mods.refl Nil W)) Try.underlying142 rfl hinfo.out ?_)
          | (go_at_call 91; refine (HT0.out _).mono ?_; rintro e W1 ⟨rfl, m9⟩; have M1 := Lib.hid m9; clear m9))
        have R3 : Hid (∀ V, Mods Nil W3 V → V.rangeAt W1.heap.size 0 (bts (eight x))) := Lib.hid (fun V hm => blkL_range (B3.out.mods hm (fun h => h)))
        have R13 : Hid (∀ V, Mods Nil W3 V → V.rangeAt w.heap.size 0 (bts b)) := Lib.hid (fun V hm => R1.out V (M3.out.trans hm))
        have HR3 : Hid (∀ V, Mods Nil W3 V → Calls Try.prog 124 #[.slice (some ⟨w.heap.size, 0, none⟩) 56 64] V fun e V' => e = .returned (.bool true) ∧ Mods Nil W3 V') := Lib.hid (fun V hm => ((right_of_mods R1.out hB56.out hr.out (M3.out.trans hm)).mono fun e V' h => ⟨h.1, hm.trans h.2⟩))
        have HT53 := Lib.hid (gq_of (W := W3) (fun V => HT5.out V))
        have c8 : ∀ V, Mods Nil W3 V → V.cell? ⟨w.heap.size, 8, none⟩ = some (.int .u8 (z : Int)) := fun V hm => HCELL.out V (M3.out.trans hm)
        refine gq_region (by kernel_rfl) (by kernel_rfl) ?_
        simp only [Act.put, List.setIfInBounds_toArray, List.set_cons_zero, List.set_cons_succ]
        repeat (first
          | go_big_quiet_skip
          | (go_big_quiet_want; first
              | (refine gq_load_row 144 _ rfl W1.heap.size 0 rfl (bts (eight x)) _ R3.out Try.underlying144 rfl (infoCTl x) ?_; go_big_quiet_on)
              | (refine gq_load_row 142 _ rfl w.heap.size 0 rfl (bts b) _ R13.out Try.underlying142 rfl hinfo.out ?_; go_big_quiet_on)
              | (refine gq_call HR3.out ?_ ?_; (focus (intro V; go_simp; done)); go_big_quiet_on)
              | (refine gq_call HT53.out ?_ ?_; (focus (intro V; go_simp; done)); go_big_quiet_on)
              | (refine gq_build0 rfl (by rfl) ?_; go_big_quiet_on)
              | (refine gq_op (v := ?_) ?_ ?_; rotate_left; (focus (intro V hV; go_simp; try with_reducible rfl)); go_big_quiet_on))
            simp only [Act.put, List.setIfInBounds_toArray, List.set_cons_zero, List.set_cons_succ])
        refine wpQuiet_nil ?_
        intro V hV
        go_wp2_with fail
        go_ret
        exact ⟨by simp [HX0.out], HM.out.trans (M3.out.trans hV)⟩
      · rw [decide_eq_false hx0] at hne
        by_cases hz43 : z ≤ 43
        · have hzI : (z : Int) ≤ 43 := by omega
          go_enter Try.func92, Try.ntmps92
          go_wp2_with (first
            | (refine gw_alloc_of run_alloc_ct rfl rfl ?_; intro W2 b9 m9 s9; have B2 := Lib.hid b9; have M2 := Lib.hid (M1.out.trans m9); have S2 := Lib.hid (show W.heap.size ≤ W1.heap.size from M1.out.size); clear b9 m9 s9)
            | (refine wpList_store_mk rfl 144 (.tmp 3) (.tmp 5) rfl rfl W1.heap.size rfl 144 (bts (eight 0)).toArray (bts (eight x)).toArray rfl B2.out (by rw [btsA_size, btsA_size]; rfl) (btsA_all _) (infoCTa x) rfl ?_; intro W3 b9 m9; have B3 := Lib.hid b9; have M3 := Lib.hid (M2.out.nil_trans m9 (fun i hi => by have := S2.out; omega)); clear b9 m9)
            | (refine gw_load_mid (by rfl) 142 _ rfl _ _ rfl (bts b) _ (R1.out W (Mods.refl Nil W)) Try.underlying142 rfl hinfo.out ?_)
            | (go_at_call 91; refine (HT0.out _).mono ?_; rintro e W1 ⟨rfl, m9⟩; have M1 := Lib.hid m9; clear m9))
          have R3 : Hid (∀ V, Mods Nil W3 V → V.rangeAt W1.heap.size 0 (bts (eight x))) := Lib.hid (fun V hm => blkL_range (B3.out.mods hm (fun h => h)))
          have R13 : Hid (∀ V, Mods Nil W3 V → V.rangeAt w.heap.size 0 (bts b)) := Lib.hid (fun V hm => R1.out V (M3.out.trans hm))
          have HR3 : Hid (∀ V, Mods Nil W3 V → Calls Try.prog 124 #[.slice (some ⟨w.heap.size, 0, none⟩) 56 64] V fun e V' => e = .returned (.bool true) ∧ Mods Nil W3 V') := Lib.hid (fun V hm => ((right_of_mods R1.out hB56.out hr.out (M3.out.trans hm)).mono fun e V' h => ⟨h.1, hm.trans h.2⟩))
          have HT53 := Lib.hid (gq_of (W := W3) (fun V => HT5.out V))
          have c8 : ∀ V, Mods Nil W3 V → V.cell? ⟨w.heap.size, 8, none⟩ = some (.int .u8 (z : Int)) := fun V hm => HCELL.out V (M3.out.trans hm)
          refine gq_region (by kernel_rfl) (by kernel_rfl) ?_
          simp only [Act.put, List.setIfInBounds_toArray, List.set_cons_zero, List.set_cons_succ]
          repeat (first
            | go_big_quiet_skip
            | (go_big_quiet_want; first
                | (refine gq_load_row 144 _ rfl W1.heap.size 0 rfl (bts (eight x)) _ R3.out Try.underlying144 rfl (infoCTl x) ?_; go_big_quiet_on)
                | (refine gq_load_row 142 _ rfl w.heap.size 0 rfl (bts b) _ R13.out Try.underlying142 rfl hinfo.out ?_; go_big_quiet_on)
                | (refine gq_call HR3.out ?_ ?_; (focus (intro V; go_simp; done)); go_big_quiet_on)
                | (refine gq_call HT53.out ?_ ?_; (focus (intro V; go_simp; done)); go_big_quiet_on)
                | (refine gq_build0 rfl (by rfl) ?_; go_big_quiet_on)
                | (refine gq_op (v := ?_) ?_ ?_; rotate_left; (focus (intro V hV; go_simp; try with_reducible rfl)); go_big_quiet_on))
              simp only [Act.put, List.setIfInBounds_toArray, List.set_cons_zero, List.set_cons_succ])
          refine wpQuiet_nil ?_
          intro V hV
          go_wp2_with fail
          go_ret
          exact ⟨by simp [hx0, hz43] <;> omega, HM.out.trans (M3.out.trans hV)⟩
        · have hzI : (43 : Int) < (z : Int) := by omega
          go_enter Try.func92, Try.ntmps92
          go_wp2_with (first
            | (refine gw_alloc_of run_alloc_ct rfl rfl ?_; intro W2 b9 m9 s9; have B2 := Lib.hid b9; have M2 := Lib.hid (M1.out.trans m9); have S2 := Lib.hid (show W.heap.size ≤ W1.heap.size from M1.out.size); clear b9 m9 s9)
            | (refine wpList_store_mk rfl 144 (.tmp 3) (.tmp 5) rfl rfl W1.heap.size rfl 144 (bts (eight 0)).toArray (bts (eight x)).toArray rfl B2.out (by rw [btsA_size, btsA_size]; rfl) (btsA_all _) (infoCTa x) rfl ?_; intro W3 b9 m9; have B3 := Lib.hid b9; have M3 := Lib.hid (M2.out.nil_trans m9 (fun i hi => by have := S2.out; omega)); clear b9 m9)
            | (refine gw_load_mid (by rfl) 142 _ rfl _ _ rfl (bts b) _ (R1.out W (Mods.refl Nil W)) Try.underlying142 rfl hinfo.out ?_)
            | (go_at_call 91; refine (HT0.out _).mono ?_; rintro e W1 ⟨rfl, m9⟩; have M1 := Lib.hid m9; clear m9))
          have R3 : Hid (∀ V, Mods Nil W3 V → V.rangeAt W1.heap.size 0 (bts (eight x))) := Lib.hid (fun V hm => blkL_range (B3.out.mods hm (fun h => h)))
          have R13 : Hid (∀ V, Mods Nil W3 V → V.rangeAt w.heap.size 0 (bts b)) := Lib.hid (fun V hm => R1.out V (M3.out.trans hm))
          have HR3 : Hid (∀ V, Mods Nil W3 V → Calls Try.prog 124 #[.slice (some ⟨w.heap.size, 0, none⟩) 56 64] V fun e V' => e = .returned (.bool true) ∧ Mods Nil W3 V') := Lib.hid (fun V hm => ((right_of_mods R1.out hB56.out hr.out (M3.out.trans hm)).mono fun e V' h => ⟨h.1, hm.trans h.2⟩))
          have HT53 := Lib.hid (gq_of (W := W3) (fun V => HT5.out V))
          have c8 : ∀ V, Mods Nil W3 V → V.cell? ⟨w.heap.size, 8, none⟩ = some (.int .u8 (z : Int)) := fun V hm => HCELL.out V (M3.out.trans hm)
          refine gq_region (by kernel_rfl) (by kernel_rfl) ?_
          simp only [Act.put, List.setIfInBounds_toArray, List.set_cons_zero, List.set_cons_succ]
          repeat (first
            | go_big_quiet_skip
            | (go_big_quiet_want; first
                | (refine gq_load_row 144 _ rfl W1.heap.size 0 rfl (bts (eight x)) _ R3.out Try.underlying144 rfl (infoCTl x) ?_; go_big_quiet_on)
                | (refine gq_load_row 142 _ rfl w.heap.size 0 rfl (bts b) _ R13.out Try.underlying142 rfl hinfo.out ?_; go_big_quiet_on)
                | (refine gq_call HR3.out ?_ ?_; (focus (intro V; go_simp; done)); go_big_quiet_on)
                | (refine gq_call HT53.out ?_ ?_; (focus (intro V; go_simp; done)); go_big_quiet_on)
                | (refine gq_build0 rfl (by rfl) ?_; go_big_quiet_on)
                | (refine gq_op (v := ?_) ?_ ?_; rotate_left; (focus (intro V hV; go_simp; try with_reducible rfl)); go_big_quiet_on))
              simp only [Act.put, List.setIfInBounds_toArray, List.set_cons_zero, List.set_cons_succ])
          refine wpQuiet_nil ?_
          intro V hV
          go_wp2_with fail
          go_ret
          exact ⟨by simp [hx0, hz43] <;> omega, HM.out.trans (M3.out.trans hV)⟩
    · rw [decide_eq_false hxy] at heq
      go_enter Try.func92, Try.ntmps92
      go_wp2_with (first
        | (refine gw_alloc_of run_alloc_ct rfl rfl ?_; intro W2 b9 m9 s9; have B2 := Lib.hid b9; have M2 := Lib.hid (M1.out.trans m9); have S2 := Lib.hid (show W.heap.size ≤ W1.heap.size from M1.out.size); clear b9 m9 s9)
        | (refine wpList_store_mk rfl 144 (.tmp 3) (.tmp 5) rfl rfl W1.heap.size rfl 144 (bts (eight 0)).toArray (bts (eight x)).toArray rfl B2.out (by rw [btsA_size, btsA_size]; rfl) (btsA_all _) (infoCTa x) rfl ?_; intro W3 b9 m9; have B3 := Lib.hid b9; have M3 := Lib.hid (M2.out.nil_trans m9 (fun i hi => by have := S2.out; omega)); clear b9 m9)
        | (refine gw_load_mid (by rfl) 142 _ rfl _ _ rfl (bts b) _ (R1.out W (Mods.refl Nil W)) Try.underlying142 rfl hinfo.out ?_)
        | (go_at_call 91; refine (HT0.out _).mono ?_; rintro e W1 ⟨rfl, m9⟩; have M1 := Lib.hid m9; clear m9))
      have R3 : Hid (∀ V, Mods Nil W3 V → V.rangeAt W1.heap.size 0 (bts (eight x))) := Lib.hid (fun V hm => blkL_range (B3.out.mods hm (fun h => h)))
      have R13 : Hid (∀ V, Mods Nil W3 V → V.rangeAt w.heap.size 0 (bts b)) := Lib.hid (fun V hm => R1.out V (M3.out.trans hm))
      have HR3 : Hid (∀ V, Mods Nil W3 V → Calls Try.prog 124 #[.slice (some ⟨w.heap.size, 0, none⟩) 56 64] V fun e V' => e = .returned (.bool true) ∧ Mods Nil W3 V') := Lib.hid (fun V hm => ((right_of_mods R1.out hB56.out hr.out (M3.out.trans hm)).mono fun e V' h => ⟨h.1, hm.trans h.2⟩))
      have HT53 := Lib.hid (gq_of (W := W3) (fun V => HT5.out V))
      have c8 : ∀ V, Mods Nil W3 V → V.cell? ⟨w.heap.size, 8, none⟩ = some (.int .u8 (z : Int)) := fun V hm => HCELL.out V (M3.out.trans hm)
      refine gq_region (by kernel_rfl) (by kernel_rfl) ?_
      simp only [Act.put, List.setIfInBounds_toArray, List.set_cons_zero, List.set_cons_succ]
      repeat (first
        | go_big_quiet_skip
        | (go_big_quiet_want; first
            | (refine gq_load_row 144 _ rfl W1.heap.size 0 rfl (bts (eight x)) _ R3.out Try.underlying144 rfl (infoCTl x) ?_; go_big_quiet_on)
            | (refine gq_load_row 142 _ rfl w.heap.size 0 rfl (bts b) _ R13.out Try.underlying142 rfl hinfo.out ?_; go_big_quiet_on)
            | (refine gq_call HR3.out ?_ ?_; (focus (intro V; go_simp; done)); go_big_quiet_on)
            | (refine gq_call HT53.out ?_ ?_; (focus (intro V; go_simp; done)); go_big_quiet_on)
            | (refine gq_build0 rfl (by rfl) ?_; go_big_quiet_on)
            | (refine gq_op (v := ?_) ?_ ?_; rotate_left; (focus (intro V hV; go_simp; try with_reducible rfl)); go_big_quiet_on))
          simp only [Act.put, List.setIfInBounds_toArray, List.set_cons_zero, List.set_cons_succ])
      refine wpQuiet_nil ?_
      intro V hV
      go_wp2_with fail
      go_ret
      exact ⟨by simp [hxy], HM.out.trans (M3.out.trans hV)⟩
end Go.Proofs.Ytdllgmhipenidaa
