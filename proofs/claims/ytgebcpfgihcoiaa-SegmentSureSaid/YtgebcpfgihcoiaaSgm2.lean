/- Package segment: what a block tells. -/
import Derived.Test.YtgebcpfgihcoiaaSgm1
import Derived.Test.YtgebcpfgihcoiaaGQ
namespace Go.Proofs.Ytgebcpfgihcoiaa
set_option maxRecDepth 100000
open Go.RowKit
set_option linter.unusedVariables false

/-- Right, and with no more bytes than may be. -/
def rightQ (b : List UInt8) : Bool := rightP b && decide (byteP b 10 ≤ 45)
theorem four_get {b : List UInt8} (h : b.length = 64) {k : Nat} (hk : k ≤ 60) (i : Nat) (hi : i < 4) : ((b.drop k).take 4).getD i 0 = b.getD (k + i) 0 := by
  simp [List.getD_eq_getElem?_getD, List.getElem?_drop, hi]
theorem four_ext {x y : List UInt8} (hx : x.length = 4) (hy : y.length = 4) (h : ∀ i, i < 4 → x.getD i 0 = y.getD i 0) : x = y := by
  apply List.ext_getElem (by omega)
  intro i h1 h2
  have := h i (by omega)
  simpa [List.getD_eq_getElem?_getD, h1, h2] using this
theorem num_four {b : List UInt8} (h : b.length = 64) : (numP b 0 = numP b 60) ↔ b.take 4 = b.drop 60 := by
  have hd : b.drop 60 = (b.drop 60).take 4 := by rw [List.take_of_length_le (by simp; omega)]
  have h0 : b.take 4 = (b.drop 0).take 4 := by simp
  constructor
  · intro e
    rw [hd, h0]
    refine four_ext (by simp; omega) (by simp; omega) (fun i hi => ?_)
    rw [four_get h (by omega) i hi, four_get h (by omega) i hi]
    have key : ∀ j, j < 4 → byteP b (0 + j) = byteP b (60 + j) := by
      unfold numP at e
      have a0 := byteP_lt b 0
      have a1 := byteP_lt b 1
      have a2 := byteP_lt b 2
      have a3 := byteP_lt b 3
      have c0 := byteP_lt b 60
      have c1 := byteP_lt b 61
      have c2 := byteP_lt b 62
      have c3 := byteP_lt b 63
      intro j hj
      match j, hj with
      | 0, _ => simp only [Nat.reduceAdd, Nat.zero_add, Nat.add_zero] at *; omega
      | 1, _ => simp only [Nat.reduceAdd, Nat.zero_add] at *; omega
      | 2, _ => simp only [Nat.reduceAdd, Nat.zero_add] at *; omega
      | 3, _ => simp only [Nat.reduceAdd, Nat.zero_add] at *; omega
    have := key i hi
    unfold byteP at this
    exact UInt8.toNat_inj.1 this
  · intro e
    have key : ∀ i, i < 4 → byteP b (0 + i) = byteP b (60 + i) := fun i hi => by
      unfold byteP
      rw [← four_get h (by omega) i hi, ← four_get h (by omega) i hi, ← hd, ← h0, e]
    have k0 := key 0 (by omega)
    have k1 := key 1 (by omega)
    have k2 := key 2 (by omega)
    have k3 := key 3 (by omega)
    unfold numP
    simp only [Nat.reduceAdd, Nat.zero_add, Nat.add_zero] at *
    omega
theorem rightP_num {b : List UInt8} (h : b.length = 64) : rightP b = (rightOf (b.take 60) && decide (numP b 0 = numP b 60)) := by
  unfold rightP
  congr 1
  rw [Bool.eq_iff_iff]
  simp [num_four h]

set_option maxHeartbeats 3200000 in
theorem sright_any (w : World) {b : List UInt8} (h : b.length = 64) : Calls Try.prog 62 #[.agg (bts b).toArray] w fun e w' => e = .returned (.bool (rightQ b)) ∧ Mods Nil w w' := by
  obtain ⟨W, hW⟩ : ∃ W, w.alloc (.cells (bts b).toArray 94) = W := ⟨_, rfl⟩
  have HM : Hid (Mods Nil w W) := by rw [← hW]; exact (Mods.refl Nil w).alloc _
  have R1 : Hid (∀ V, Mods Nil W V → V.rangeAt w.heap.size 0 (bts b)) := by subst hW; exact Lib.hid (fun V hm => sb_range hm)
  have c10 : ∀ V, Mods Nil W V → V.cell? ⟨w.heap.size, 10, none⟩ = some (.int .u8 (byteP b 10 : Nat)) := by subst hW; exact fun V hm => sb_cell h hm 10 (by omega)
  have h60 : (b.take 60).length = 60 := by simp; omega
  have HR : Hid (∀ V, Mods Nil W V → Calls Try.prog 73 #[.slice (some ⟨w.heap.size, 0, none⟩) 60 64] V fun e V' => e = .returned (.bool (rightOf (b.take 60))) ∧ Mods Nil W V') := Lib.hid (fun V hV => by
    refine (right_any h60 ?_).mono (fun e V' h => ⟨h.1, hV.trans h.2⟩)
    have hr := R1.out V hV
    refine ⟨by simp; omega, by unfold maxLen; omega, (fun h => by cases h), .inr ⟨w.heap.size, 0, rfl, fun j u hu => hr j u ?_⟩⟩
    rw [← bts_take, List.getElem?_take] at hu
    split at hu
    · exact hu
    · cases hu)
  have hinfo := Lib.hid (infoSB3 h)
  have HN0 := Lib.hid (gq_of (W := W) (fun V => snumber0 V h))
  have HN6 := Lib.hid (gq_of (W := W) (fun V => snumber60 V h))
  have hq : rightQ b = (rightOf (b.take 60) && decide (numP b 0 = numP b 60) && decide (byteP b 10 ≤ 45)) := by unfold rightQ; rw [rightP_num h]
  rw [hq]
  have b10 := byteP_lt b 10
  clear h60 h hq
  obtain ⟨x, hx⟩ : ∃ x, numP b 0 = x := ⟨_, rfl⟩
  obtain ⟨y, hy⟩ : ∃ y, numP b 60 = y := ⟨_, rfl⟩
  obtain ⟨z, hz⟩ : ∃ z, byteP b 10 = z := ⟨_, rfl⟩
  obtain ⟨r, hr⟩ : ∃ r, rightOf (b.take 60) = r := ⟨_, rfl⟩
  rw [hx] at HN0
  rw [hy] at HN6
  rw [hz] at c10 b10
  rw [hr] at HR
  rw [hx, hy, hz, hr]
  clear hx hy hz hr
  cases r with
  | false =>
    go_enter Try.func62, Try.ntmps62
    go_wp2_with fail
    refine gq_region (by kernel_rfl) (by kernel_rfl) ?_
    repeat (first
      | go_big_quiet_skip
      | (go_big_quiet_want; first
          | (refine gq_load_row 94 _ rfl _ _ rfl (bts b) _ R1.out Try.underlying94 rfl hinfo.out ?_; go_big_quiet_on)
          | (refine gq_call HR.out ?_ ?_; (focus (intro V; go_simp; done)); go_big_quiet_on)
          | (refine gq_call HN0.out ?_ ?_; (focus (intro V; go_simp; done)); go_big_quiet_on)
          | (refine gq_call HN6.out ?_ ?_; (focus (intro V; go_simp; done)); go_big_quiet_on)
          | (refine gq_op (v := ?_) ?_ ?_; rotate_left; (focus (intro V hV; go_simp; try with_reducible rfl)); go_big_quiet_on))
        simp only [Act.put, List.setIfInBounds_toArray, List.set_cons_zero, List.set_cons_succ])
    refine wpQuiet_nil ?_
    intro V hV
    go_wp2_with fail
    go_ret
    refine ⟨rfl, HM.out.trans hV⟩
  | true =>
    by_cases hxy : x = y
    · subst hxy
      by_cases hz45 : z ≤ 45
      · have hzI : (z : Int) ≤ 45 := by omega
        go_enter Try.func62, Try.ntmps62
        go_wp2_with fail
        refine gq_region (by kernel_rfl) (by kernel_rfl) ?_
        repeat (first
          | go_big_quiet_skip
          | (go_big_quiet_want; first
              | (refine gq_load_row 94 _ rfl _ _ rfl (bts b) _ R1.out Try.underlying94 rfl hinfo.out ?_; go_big_quiet_on)
              | (refine gq_call HR.out ?_ ?_; (focus (intro V; go_simp; done)); go_big_quiet_on)
              | (refine gq_call HN0.out ?_ ?_; (focus (intro V; go_simp; done)); go_big_quiet_on)
              | (refine gq_call HN6.out ?_ ?_; (focus (intro V; go_simp; done)); go_big_quiet_on)
              | (refine gq_op (v := ?_) ?_ ?_; rotate_left; (focus (intro V hV; go_simp; try with_reducible rfl)); go_big_quiet_on))
            simp only [Act.put, List.setIfInBounds_toArray, List.set_cons_zero, List.set_cons_succ])
        refine wpQuiet_nil ?_
        intro V hV
        go_wp2_with fail
        go_ret
        refine ⟨by simp [hz45] <;> omega, HM.out.trans hV⟩
      · have hzI : (45 : Int) < (z : Int) := by omega
        go_enter Try.func62, Try.ntmps62
        go_wp2_with fail
        refine gq_region (by kernel_rfl) (by kernel_rfl) ?_
        repeat (first
          | go_big_quiet_skip
          | (go_big_quiet_want; first
              | (refine gq_load_row 94 _ rfl _ _ rfl (bts b) _ R1.out Try.underlying94 rfl hinfo.out ?_; go_big_quiet_on)
              | (refine gq_call HR.out ?_ ?_; (focus (intro V; go_simp; done)); go_big_quiet_on)
              | (refine gq_call HN0.out ?_ ?_; (focus (intro V; go_simp; done)); go_big_quiet_on)
              | (refine gq_call HN6.out ?_ ?_; (focus (intro V; go_simp; done)); go_big_quiet_on)
              | (refine gq_op (v := ?_) ?_ ?_; rotate_left; (focus (intro V hV; go_simp; try with_reducible rfl)); go_big_quiet_on))
            simp only [Act.put, List.setIfInBounds_toArray, List.set_cons_zero, List.set_cons_succ])
        refine wpQuiet_nil ?_
        intro V hV
        go_wp2_with fail
        go_ret
        refine ⟨by simp [hz45] <;> omega, HM.out.trans hV⟩
    · have hxyI : ((x : Int) == (y : Int)) = false := by simp; omega
      go_enter Try.func62, Try.ntmps62
      go_wp2_with fail
      refine gq_region (by kernel_rfl) (by kernel_rfl) ?_
      repeat (first
        | go_big_quiet_skip
        | (go_big_quiet_want; first
            | (refine gq_load_row 94 _ rfl _ _ rfl (bts b) _ R1.out Try.underlying94 rfl hinfo.out ?_; go_big_quiet_on)
            | (refine gq_call HR.out ?_ ?_; (focus (intro V; go_simp; done)); go_big_quiet_on)
            | (refine gq_call HN0.out ?_ ?_; (focus (intro V; go_simp; done)); go_big_quiet_on)
            | (refine gq_call HN6.out ?_ ?_; (focus (intro V; go_simp; done)); go_big_quiet_on)
            | (refine gq_op (v := ?_) ?_ ?_; rotate_left; (focus (intro V hV; go_simp; try with_reducible rfl)); go_big_quiet_on))
          simp only [Act.put, List.setIfInBounds_toArray, List.set_cons_zero, List.set_cons_succ])
      refine wpQuiet_nil ?_
      intro V hV
      go_wp2_with fail
      go_ret
      refine ⟨by simp [hxy] <;> omega, HM.out.trans hV⟩
/-- It has as many bytes as a part at a place may. -/
def sizedP (b : List UInt8) (part : Nat) : Bool := if part + 1 < byteP b 9 then decide (byteP b 10 = 45) else decide (0 < byteP b 10 ∨ byteP b 9 = 1)
set_option maxHeartbeats 3200000 in
theorem ssized_any (w : World) {b : List UInt8} (h : b.length = 64) (part : Nat) (hp : part ≤ 1000000) : Calls Try.prog 74 #[.agg (bts b).toArray, .int .i64 (part : Int)] w fun e w' => e = .returned (.bool (sizedP b part)) ∧ Mods Nil w w' := by
  obtain ⟨W, hW⟩ : ∃ W, w.alloc (.cells (bts b).toArray 94) = W := ⟨_, rfl⟩
  have HM : Hid (Mods Nil w W) := by rw [← hW]; exact (Mods.refl Nil w).alloc _
  have R1 : Hid (∀ V, Mods Nil W V → V.rangeAt w.heap.size 0 (bts b)) := by subst hW; exact Lib.hid (fun V hm => sb_range hm)
  have c10 : Hid (∀ V, Mods Nil W V → V.cell? ⟨w.heap.size, 10, none⟩ = some (.int .u8 (byteP b 10 : Nat))) := by subst hW; exact Lib.hid (fun V hm => sb_cell h hm 10 (by omega))
  have hinfo := Lib.hid (infoSB3 h)
  have HN := Lib.hid (fun V => smany_any V h)
  have e : sizedP b part = if part + 1 < byteP b 9 then decide (byteP b 10 = 45) else decide (0 < byteP b 10 ∨ byteP b 9 = 1) := rfl
  rw [e]
  have b9 := byteP_lt b 9
  have b10 := byteP_lt b 10
  clear h e
  obtain ⟨x, hx⟩ : ∃ x, byteP b 9 = x := ⟨_, rfl⟩
  obtain ⟨z, hz⟩ : ∃ z, byteP b 10 = z := ⟨_, rfl⟩
  rw [hx] at HN b9
  rw [hz] at c10 b10
  rw [hx, hz]
  clear hx hz
  have hwx : IntKind.i64.wrap ((x : Int) - 1) = (x : Int) - 1 := by rw [IntKind.wrap_i64]; omega
  by_cases h1 : part + 1 < x
  · have h1I : (part : Int) < (x : Int) - 1 := by omega
    rw [if_pos h1]
    by_cases hz : z = 45
    · subst hz
      go_enter Try.func74, Try.ntmps74
      go_wp2_with (first
        | (refine gw_load_mid (by rfl) 94 _ rfl _ _ rfl (bts b) _ (R1.out _ (by first | assumption | exact Mods.refl _ _)) Try.underlying94 rfl hinfo.out ?_)
        | (go_at_call 64; refine (HN.out _).mono ?_; rintro e w2 ⟨rfl, m2⟩; have q2 : Mods Nil W w2 := Mods.trans (by first | assumption | exact Mods.refl _ _) m2; have d10 := c10.out _ q2))
      go_ret
      refine ⟨by simp, HM.out.trans (by assumption)⟩
    · have hzI : ((z : Int) == 45) = false := by simp; omega
      go_enter Try.func74, Try.ntmps74
      go_wp2_with (first
        | (refine gw_load_mid (by rfl) 94 _ rfl _ _ rfl (bts b) _ (R1.out _ (by first | assumption | exact Mods.refl _ _)) Try.underlying94 rfl hinfo.out ?_)
        | (go_at_call 64; refine (HN.out _).mono ?_; rintro e w2 ⟨rfl, m2⟩; have q2 : Mods Nil W w2 := Mods.trans (by first | assumption | exact Mods.refl _ _) m2; have d10 := c10.out _ q2))
      go_ret
      refine ⟨by simp [hz], HM.out.trans (by assumption)⟩
  · have h1I : (x : Int) - 1 ≤ (part : Int) := by omega
    rw [if_neg h1]
    by_cases hz : 0 < z
    · have hzI : (0 : Int) < (z : Int) := by omega
      go_enter Try.func74, Try.ntmps74
      go_wp2_with (first
        | (refine gw_load_mid (by rfl) 94 _ rfl _ _ rfl (bts b) _ (R1.out _ (by first | assumption | exact Mods.refl _ _)) Try.underlying94 rfl hinfo.out ?_)
        | (go_at_call 64; refine (HN.out _).mono ?_; rintro e w2 ⟨rfl, m2⟩; have q2 : Mods Nil W w2 := Mods.trans (by first | assumption | exact Mods.refl _ _) m2; have d10 := c10.out _ q2))
      go_ret
      refine ⟨by simp [hz], HM.out.trans (by assumption)⟩
    · obtain rfl : z = 0 := by omega
      by_cases hx1 : x = 1
      · subst hx1
        go_enter Try.func74, Try.ntmps74
        go_wp2_with (first
          | (refine gw_load_mid (by rfl) 94 _ rfl _ _ rfl (bts b) _ (R1.out _ (by first | assumption | exact Mods.refl _ _)) Try.underlying94 rfl hinfo.out ?_)
          | (go_at_call 64; refine (HN.out _).mono ?_; rintro e w2 ⟨rfl, m2⟩; have q2 : Mods Nil W w2 := Mods.trans (by first | assumption | exact Mods.refl _ _) m2; have d10 := c10.out _ q2))
        go_ret
        refine ⟨by simp, HM.out.trans (by assumption)⟩
      · have hxI : ((x : Int) == 1) = false := by simp; omega
        go_enter Try.func74, Try.ntmps74
        go_wp2_with (first
          | (refine gw_load_mid (by rfl) 94 _ rfl _ _ rfl (bts b) _ (R1.out _ (by first | assumption | exact Mods.refl _ _)) Try.underlying94 rfl hinfo.out ?_)
          | (go_at_call 64; refine (HN.out _).mono ?_; rintro e w2 ⟨rfl, m2⟩; have q2 : Mods Nil W w2 := Mods.trans (by first | assumption | exact Mods.refl _ _) m2; have d10 := c10.out _ q2))
        go_ret
        refine ⟨by simp [hx1], HM.out.trans (by assumption)⟩
/-- It may be the first block of a record. -/
def beginsP (b : List UInt8) (pl e : Nat) : Bool := decide (numP b 4 = pl + 1 ∧ e ≤ numP b 0 ∧ 1 ≤ byteP b 9 ∧ byteP b 9 ≤ 92)
set_option maxHeartbeats 3200000 in
theorem sbegins_any (w : World) {b : List UInt8} (h : b.length = 64) {pl e : Nat} (hp : pl ≤ 1000000) (he : e < 4294967296) : Calls Try.prog 63 #[.agg (bts b).toArray, .int .i64 (pl : Int), .int .u32 (e : Int)] w fun r w' => r = .returned (.bool (beginsP b pl e)) ∧ Mods Nil w w' := by
  obtain ⟨W, hW⟩ : ∃ W, w.alloc (.cells (bts b).toArray 94) = W := ⟨_, rfl⟩
  have HM : Hid (Mods Nil w W) := by rw [← hW]; exact (Mods.refl Nil w).alloc _
  have R1 : Hid (∀ V, Mods Nil W V → V.rangeAt w.heap.size 0 (bts b)) := by subst hW; exact Lib.hid (fun V hm => sb_range hm)
  have hinfo := Lib.hid (infoSB3 h)
  have HN := Lib.hid (fun V => smany_any V h)
  have H0 := Lib.hid (fun V => snumber0 V h)
  have H4 := Lib.hid (fun V => snumber4 V h)
  have e0 : beginsP b pl e = decide (numP b 4 = pl + 1 ∧ e ≤ numP b 0 ∧ 1 ≤ byteP b 9 ∧ byteP b 9 ≤ 92) := rfl
  rw [e0]
  have b9 := byteP_lt b 9
  clear h e0
  obtain ⟨x, hx⟩ : ∃ x, byteP b 9 = x := ⟨_, rfl⟩
  obtain ⟨y, hy⟩ : ∃ y, numP b 0 = y := ⟨_, rfl⟩
  obtain ⟨z, hz⟩ : ∃ z, numP b 4 = z := ⟨_, rfl⟩
  obtain ⟨p, hpp⟩ : ∃ p, pl + 1 = p := ⟨_, rfl⟩
  rw [hx] at HN b9
  rw [hy] at H0
  rw [hz] at H4
  rw [hx, hy, hz, hpp]
  have hpI : (pl : Int) + 1 = (p : Int) := by omega
  have hw1 : IntKind.i64.wrap (p : Int) = (p : Int) := by rw [IntKind.wrap_i64]; omega
  have hw2 : IntKind.u32.wrap (p : Int) = (p : Int) := by rw [IntKind.wrap_u32]; omega
  have hb9 : (x : Int) < 256 := by omega
  clear hx hy hz hpp
  by_cases h1 : z = p
  · subst h1
    by_cases h2 : e ≤ y
    · have h2I : (e : Int) ≤ (y : Int) := by omega
      by_cases h3 : 1 ≤ x
      · have h3I : (1 : Int) ≤ (x : Int) := by omega
        by_cases h4 : x ≤ 92
        · have h4I : (x : Int) ≤ 92 := by omega
          go_enter Try.func63, Try.ntmps63
          go_wp2_with (first
            | (refine gw_load_mid (by rfl) 94 _ rfl _ _ rfl (bts b) _ (R1.out _ (by first | assumption | exact Mods.refl _ _)) Try.underlying94 rfl hinfo.out ?_)
            | (go_at_call 64; with_reducible refine (HN.out _).mono ?_; rintro r w2 ⟨rfl, m2⟩; have q2 : Mods Nil W w2 := Mods.trans (by first | assumption | exact Mods.refl _ _) m2)
            | (go_at_call 61; with_reducible refine (H0.out _).mono ?_; rintro r w2 ⟨rfl, m2⟩; have q2 : Mods Nil W w2 := Mods.trans (by first | assumption | exact Mods.refl _ _) m2)
            | (go_at_call 61; with_reducible refine (H4.out _).mono ?_; rintro r w2 ⟨rfl, m2⟩; have q2 : Mods Nil W w2 := Mods.trans (by first | assumption | exact Mods.refl _ _) m2))
          go_ret
          refine ⟨by first | (simp; done) | (simp; omega), HM.out.trans (by assumption)⟩
        · have h4I : (92 : Int) < (x : Int) := by omega
          go_enter Try.func63, Try.ntmps63
          go_wp2_with (first
            | (refine gw_load_mid (by rfl) 94 _ rfl _ _ rfl (bts b) _ (R1.out _ (by first | assumption | exact Mods.refl _ _)) Try.underlying94 rfl hinfo.out ?_)
            | (go_at_call 64; with_reducible refine (HN.out _).mono ?_; rintro r w2 ⟨rfl, m2⟩; have q2 : Mods Nil W w2 := Mods.trans (by first | assumption | exact Mods.refl _ _) m2)
            | (go_at_call 61; with_reducible refine (H0.out _).mono ?_; rintro r w2 ⟨rfl, m2⟩; have q2 : Mods Nil W w2 := Mods.trans (by first | assumption | exact Mods.refl _ _) m2)
            | (go_at_call 61; with_reducible refine (H4.out _).mono ?_; rintro r w2 ⟨rfl, m2⟩; have q2 : Mods Nil W w2 := Mods.trans (by first | assumption | exact Mods.refl _ _) m2))
          go_ret
          refine ⟨by simp [h2, h3, h4] <;> omega, HM.out.trans (by assumption)⟩
      · have h3I : (x : Int) < 1 := by omega
        go_enter Try.func63, Try.ntmps63
        go_wp2_with (first
          | (refine gw_load_mid (by rfl) 94 _ rfl _ _ rfl (bts b) _ (R1.out _ (by first | assumption | exact Mods.refl _ _)) Try.underlying94 rfl hinfo.out ?_)
          | (go_at_call 64; with_reducible refine (HN.out _).mono ?_; rintro r w2 ⟨rfl, m2⟩; have q2 : Mods Nil W w2 := Mods.trans (by first | assumption | exact Mods.refl _ _) m2)
          | (go_at_call 61; with_reducible refine (H0.out _).mono ?_; rintro r w2 ⟨rfl, m2⟩; have q2 : Mods Nil W w2 := Mods.trans (by first | assumption | exact Mods.refl _ _) m2)
          | (go_at_call 61; with_reducible refine (H4.out _).mono ?_; rintro r w2 ⟨rfl, m2⟩; have q2 : Mods Nil W w2 := Mods.trans (by first | assumption | exact Mods.refl _ _) m2))
        go_ret
        refine ⟨by first | (simp; done) | (simp; omega), HM.out.trans (by assumption)⟩
    · have h2I : (y : Int) < (e : Int) := by omega
      go_enter Try.func63, Try.ntmps63
      go_wp2_with (first
        | (refine gw_load_mid (by rfl) 94 _ rfl _ _ rfl (bts b) _ (R1.out _ (by first | assumption | exact Mods.refl _ _)) Try.underlying94 rfl hinfo.out ?_)
        | (go_at_call 64; with_reducible refine (HN.out _).mono ?_; rintro r w2 ⟨rfl, m2⟩; have q2 : Mods Nil W w2 := Mods.trans (by first | assumption | exact Mods.refl _ _) m2)
        | (go_at_call 61; with_reducible refine (H0.out _).mono ?_; rintro r w2 ⟨rfl, m2⟩; have q2 : Mods Nil W w2 := Mods.trans (by first | assumption | exact Mods.refl _ _) m2)
        | (go_at_call 61; with_reducible refine (H4.out _).mono ?_; rintro r w2 ⟨rfl, m2⟩; have q2 : Mods Nil W w2 := Mods.trans (by first | assumption | exact Mods.refl _ _) m2))
      go_ret
      refine ⟨by first | (simp; done) | (simp; omega), HM.out.trans (by assumption)⟩
  · have h1I : ((z : Int) == (p : Int)) = false := by simp; omega
    go_enter Try.func63, Try.ntmps63
    go_wp2_with (first
      | (refine gw_load_mid (by rfl) 94 _ rfl _ _ rfl (bts b) _ (R1.out _ (by first | assumption | exact Mods.refl _ _)) Try.underlying94 rfl hinfo.out ?_)
      | (go_at_call 64; with_reducible refine (HN.out _).mono ?_; rintro r w2 ⟨rfl, m2⟩; have q2 : Mods Nil W w2 := Mods.trans (by first | assumption | exact Mods.refl _ _) m2)
      | (go_at_call 61; with_reducible refine (H0.out _).mono ?_; rintro r w2 ⟨rfl, m2⟩; have q2 : Mods Nil W w2 := Mods.trans (by first | assumption | exact Mods.refl _ _) m2)
      | (go_at_call 61; with_reducible refine (H4.out _).mono ?_; rintro r w2 ⟨rfl, m2⟩; have q2 : Mods Nil W w2 := Mods.trans (by first | assumption | exact Mods.refl _ _) m2))
    go_ret
    refine ⟨by first | (simp; done) | (simp; omega), HM.out.trans (by assumption)⟩
/-- It is a part of the record that has this first block. -/
def contP (b f : List UInt8) (part : Nat) : Bool := decide (numP b 0 = numP f 0 ∧ numP b 4 = numP f 4 ∧ byteP b 9 = byteP f 9 ∧ byteP b 8 = part ∧ sizedP b part = true)
set_option maxHeartbeats 3200000 in
theorem scont_any (w : World) {b f : List UInt8} (h : b.length = 64) (hf : f.length = 64) {part : Nat} (hp : part ≤ 1000000) : Calls Try.prog 65 #[.agg (bts b).toArray, .agg (bts f).toArray, .int .i64 (part : Int)] w fun r w' => r = .returned (.bool (contP b f part)) ∧ Mods Nil w w' := by
  obtain ⟨W, hW⟩ : ∃ W, (w.alloc (.cells (bts b).toArray 94)).alloc (.cells (bts f).toArray 94) = W := ⟨_, rfl⟩
  have HM : Hid (Mods Nil w W) := by rw [← hW]; exact ((Mods.refl Nil w).alloc _).alloc _
  have R1 : Hid (∀ V, Mods Nil W V → V.rangeAt w.heap.size 0 (bts b)) := by subst hW; exact Lib.hid (fun V hm => sb_range (((Mods.refl Nil _).alloc _).trans hm))
  have R2 : Hid (∀ V, Mods Nil W V → V.rangeAt (w.heap.size + 1) 0 (bts f)) := by
    subst hW
    exact Lib.hid (fun V hm => by have := sb_range hm; rwa [World.size_alloc] at this)
  have c8 : ∀ V, Mods Nil W V → V.cell? ⟨w.heap.size, 8, none⟩ = some (.int .u8 (byteP b 8 : Nat)) := by subst hW; exact fun V hm => sb_cell h (((Mods.refl Nil _).alloc _).trans hm) 8 (by omega)
  have hinfo := Lib.hid (infoSB3 h)
  have hinff := Lib.hid (infoSB3 hf)
  have M1 := Lib.hid (gq_of (W := W) (fun V => smany_any V h))
  have M2 := Lib.hid (gq_of (W := W) (fun V => smany_any V hf))
  have A0 := Lib.hid (gq_of (W := W) (fun V => snumber0 V h))
  have A4 := Lib.hid (gq_of (W := W) (fun V => snumber4 V h))
  have B0 := Lib.hid (gq_of (W := W) (fun V => snumber0 V hf))
  have B4 := Lib.hid (gq_of (W := W) (fun V => snumber4 V hf))
  have HZ := Lib.hid (gq_of (W := W) (fun V => ssized_any V h part hp))
  have e0 : contP b f part = decide (numP b 0 = numP f 0 ∧ numP b 4 = numP f 4 ∧ byteP b 9 = byteP f 9 ∧ byteP b 8 = part ∧ sizedP b part = true) := rfl
  rw [e0]
  have b8 := byteP_lt b 8
  clear h hf e0
  obtain ⟨x1, hx1⟩ : ∃ x, byteP b 9 = x := ⟨_, rfl⟩
  obtain ⟨x2, hx2⟩ : ∃ x, byteP f 9 = x := ⟨_, rfl⟩
  obtain ⟨y1, hy1⟩ : ∃ y, numP b 0 = y := ⟨_, rfl⟩
  obtain ⟨y2, hy2⟩ : ∃ y, numP f 0 = y := ⟨_, rfl⟩
  obtain ⟨z1, hz1⟩ : ∃ z, numP b 4 = z := ⟨_, rfl⟩
  obtain ⟨z2, hz2⟩ : ∃ z, numP f 4 = z := ⟨_, rfl⟩
  obtain ⟨q, hq⟩ : ∃ q, byteP b 8 = q := ⟨_, rfl⟩
  obtain ⟨r, hr⟩ : ∃ r, sizedP b part = r := ⟨_, rfl⟩
  rw [hx1] at M1
  rw [hx2] at M2
  rw [hy1] at A0
  rw [hy2] at B0
  rw [hz1] at A4
  rw [hz2] at B4
  rw [hq] at c8 b8
  rw [hr] at HZ
  rw [hx1, hx2, hy1, hy2, hz1, hz2, hq, hr]
  have hwq : IntKind.i64.wrap (q : Int) = (q : Int) := by rw [IntKind.wrap_i64]; omega
  clear hx1 hx2 hy1 hy2 hz1 hz2 hq hr
  by_cases h1 : y1 = y2
  · subst h1
    by_cases h2 : z1 = z2
    · subst h2
      by_cases h3 : x1 = x2
      · subst h3
        by_cases h4 : q = part
        · subst h4
          cases r with
          | true =>
            go_enter Try.func65, Try.ntmps65
            go_wp2_with fail
            refine gq_region (by kernel_rfl) (by kernel_rfl) ?_
            repeat (first
              | go_big_quiet_skip
              | (go_big_quiet_want; first
                  | (refine gq_load_row 94 _ rfl _ _ rfl (bts b) _ R1.out Try.underlying94 rfl hinfo.out ?_; go_big_quiet_on)
                  | (refine gq_load_row 94 _ rfl _ _ rfl (bts f) _ R2.out Try.underlying94 rfl hinff.out ?_; go_big_quiet_on)
                  | (refine gq_call A0.out ?_ ?_; (focus (intro V; go_simp; done)); go_big_quiet_on)
                  | (refine gq_call B0.out ?_ ?_; (focus (intro V; go_simp; done)); go_big_quiet_on)
                  | (refine gq_call A4.out ?_ ?_; (focus (intro V; go_simp; done)); go_big_quiet_on)
                  | (refine gq_call B4.out ?_ ?_; (focus (intro V; go_simp; done)); go_big_quiet_on)
                  | (refine gq_call M1.out ?_ ?_; (focus (intro V; go_simp; done)); go_big_quiet_on)
                  | (refine gq_call M2.out ?_ ?_; (focus (intro V; go_simp; done)); go_big_quiet_on)
                  | (refine gq_call HZ.out ?_ ?_; (focus (intro V; go_simp; done)); go_big_quiet_on)
                  | (refine gq_op (v := ?_) ?_ ?_; rotate_left; (focus (intro V hV; go_simp; try with_reducible rfl)); go_big_quiet_on))
                simp only [Act.put, List.setIfInBounds_toArray, List.set_cons_zero, List.set_cons_succ])
            refine wpQuiet_nil ?_
            intro V hV
            go_wp2_with fail
            go_ret
            refine ⟨by simp, HM.out.trans hV⟩
          | false =>
            go_enter Try.func65, Try.ntmps65
            go_wp2_with fail
            refine gq_region (by kernel_rfl) (by kernel_rfl) ?_
            repeat (first
              | go_big_quiet_skip
              | (go_big_quiet_want; first
                  | (refine gq_load_row 94 _ rfl _ _ rfl (bts b) _ R1.out Try.underlying94 rfl hinfo.out ?_; go_big_quiet_on)
                  | (refine gq_load_row 94 _ rfl _ _ rfl (bts f) _ R2.out Try.underlying94 rfl hinff.out ?_; go_big_quiet_on)
                  | (refine gq_call A0.out ?_ ?_; (focus (intro V; go_simp; done)); go_big_quiet_on)
                  | (refine gq_call B0.out ?_ ?_; (focus (intro V; go_simp; done)); go_big_quiet_on)
                  | (refine gq_call A4.out ?_ ?_; (focus (intro V; go_simp; done)); go_big_quiet_on)
                  | (refine gq_call B4.out ?_ ?_; (focus (intro V; go_simp; done)); go_big_quiet_on)
                  | (refine gq_call M1.out ?_ ?_; (focus (intro V; go_simp; done)); go_big_quiet_on)
                  | (refine gq_call M2.out ?_ ?_; (focus (intro V; go_simp; done)); go_big_quiet_on)
                  | (refine gq_call HZ.out ?_ ?_; (focus (intro V; go_simp; done)); go_big_quiet_on)
                  | (refine gq_op (v := ?_) ?_ ?_; rotate_left; (focus (intro V hV; go_simp; try with_reducible rfl)); go_big_quiet_on))
                simp only [Act.put, List.setIfInBounds_toArray, List.set_cons_zero, List.set_cons_succ])
            refine wpQuiet_nil ?_
            intro V hV
            go_wp2_with fail
            go_ret
            refine ⟨by simp, HM.out.trans hV⟩
        · have h4I : ((q : Int) == (part : Int)) = false := by simp; omega
          go_enter Try.func65, Try.ntmps65
          go_wp2_with fail
          refine gq_region (by kernel_rfl) (by kernel_rfl) ?_
          repeat (first
            | go_big_quiet_skip
            | (go_big_quiet_want; first
                | (refine gq_load_row 94 _ rfl _ _ rfl (bts b) _ R1.out Try.underlying94 rfl hinfo.out ?_; go_big_quiet_on)
                | (refine gq_load_row 94 _ rfl _ _ rfl (bts f) _ R2.out Try.underlying94 rfl hinff.out ?_; go_big_quiet_on)
                | (refine gq_call A0.out ?_ ?_; (focus (intro V; go_simp; done)); go_big_quiet_on)
                | (refine gq_call B0.out ?_ ?_; (focus (intro V; go_simp; done)); go_big_quiet_on)
                | (refine gq_call A4.out ?_ ?_; (focus (intro V; go_simp; done)); go_big_quiet_on)
                | (refine gq_call B4.out ?_ ?_; (focus (intro V; go_simp; done)); go_big_quiet_on)
                | (refine gq_call M1.out ?_ ?_; (focus (intro V; go_simp; done)); go_big_quiet_on)
                | (refine gq_call M2.out ?_ ?_; (focus (intro V; go_simp; done)); go_big_quiet_on)
                | (refine gq_call HZ.out ?_ ?_; (focus (intro V; go_simp; done)); go_big_quiet_on)
                | (refine gq_op (v := ?_) ?_ ?_; rotate_left; (focus (intro V hV; go_simp; try with_reducible rfl)); go_big_quiet_on))
              simp only [Act.put, List.setIfInBounds_toArray, List.set_cons_zero, List.set_cons_succ])
          refine wpQuiet_nil ?_
          intro V hV
          go_wp2_with fail
          go_ret
          refine ⟨by simp [h4], HM.out.trans hV⟩
      · have h3I : ((x1 : Int) == (x2 : Int)) = false := by simp; omega
        go_enter Try.func65, Try.ntmps65
        go_wp2_with fail
        refine gq_region (by kernel_rfl) (by kernel_rfl) ?_
        repeat (first
          | go_big_quiet_skip
          | (go_big_quiet_want; first
              | (refine gq_load_row 94 _ rfl _ _ rfl (bts b) _ R1.out Try.underlying94 rfl hinfo.out ?_; go_big_quiet_on)
              | (refine gq_load_row 94 _ rfl _ _ rfl (bts f) _ R2.out Try.underlying94 rfl hinff.out ?_; go_big_quiet_on)
              | (refine gq_call A0.out ?_ ?_; (focus (intro V; go_simp; done)); go_big_quiet_on)
              | (refine gq_call B0.out ?_ ?_; (focus (intro V; go_simp; done)); go_big_quiet_on)
              | (refine gq_call A4.out ?_ ?_; (focus (intro V; go_simp; done)); go_big_quiet_on)
              | (refine gq_call B4.out ?_ ?_; (focus (intro V; go_simp; done)); go_big_quiet_on)
              | (refine gq_call M1.out ?_ ?_; (focus (intro V; go_simp; done)); go_big_quiet_on)
              | (refine gq_call M2.out ?_ ?_; (focus (intro V; go_simp; done)); go_big_quiet_on)
              | (refine gq_call HZ.out ?_ ?_; (focus (intro V; go_simp; done)); go_big_quiet_on)
              | (refine gq_op (v := ?_) ?_ ?_; rotate_left; (focus (intro V hV; go_simp; try with_reducible rfl)); go_big_quiet_on))
            simp only [Act.put, List.setIfInBounds_toArray, List.set_cons_zero, List.set_cons_succ])
        refine wpQuiet_nil ?_
        intro V hV
        go_wp2_with fail
        go_ret
        refine ⟨by simp [h3], HM.out.trans hV⟩
    · have h2I : ((z1 : Int) == (z2 : Int)) = false := by simp; omega
      go_enter Try.func65, Try.ntmps65
      go_wp2_with fail
      refine gq_region (by kernel_rfl) (by kernel_rfl) ?_
      repeat (first
        | go_big_quiet_skip
        | (go_big_quiet_want; first
            | (refine gq_load_row 94 _ rfl _ _ rfl (bts b) _ R1.out Try.underlying94 rfl hinfo.out ?_; go_big_quiet_on)
            | (refine gq_load_row 94 _ rfl _ _ rfl (bts f) _ R2.out Try.underlying94 rfl hinff.out ?_; go_big_quiet_on)
            | (refine gq_call A0.out ?_ ?_; (focus (intro V; go_simp; done)); go_big_quiet_on)
            | (refine gq_call B0.out ?_ ?_; (focus (intro V; go_simp; done)); go_big_quiet_on)
            | (refine gq_call A4.out ?_ ?_; (focus (intro V; go_simp; done)); go_big_quiet_on)
            | (refine gq_call B4.out ?_ ?_; (focus (intro V; go_simp; done)); go_big_quiet_on)
            | (refine gq_call M1.out ?_ ?_; (focus (intro V; go_simp; done)); go_big_quiet_on)
            | (refine gq_call M2.out ?_ ?_; (focus (intro V; go_simp; done)); go_big_quiet_on)
            | (refine gq_call HZ.out ?_ ?_; (focus (intro V; go_simp; done)); go_big_quiet_on)
            | (refine gq_op (v := ?_) ?_ ?_; rotate_left; (focus (intro V hV; go_simp; try with_reducible rfl)); go_big_quiet_on))
          simp only [Act.put, List.setIfInBounds_toArray, List.set_cons_zero, List.set_cons_succ])
      refine wpQuiet_nil ?_
      intro V hV
      go_wp2_with fail
      go_ret
      refine ⟨by simp [h2], HM.out.trans hV⟩
  · have h1I : ((y1 : Int) == (y2 : Int)) = false := by simp; omega
    go_enter Try.func65, Try.ntmps65
    go_wp2_with fail
    refine gq_region (by kernel_rfl) (by kernel_rfl) ?_
    repeat (first
      | go_big_quiet_skip
      | (go_big_quiet_want; first
          | (refine gq_load_row 94 _ rfl _ _ rfl (bts b) _ R1.out Try.underlying94 rfl hinfo.out ?_; go_big_quiet_on)
          | (refine gq_load_row 94 _ rfl _ _ rfl (bts f) _ R2.out Try.underlying94 rfl hinff.out ?_; go_big_quiet_on)
          | (refine gq_call A0.out ?_ ?_; (focus (intro V; go_simp; done)); go_big_quiet_on)
          | (refine gq_call B0.out ?_ ?_; (focus (intro V; go_simp; done)); go_big_quiet_on)
          | (refine gq_call A4.out ?_ ?_; (focus (intro V; go_simp; done)); go_big_quiet_on)
          | (refine gq_call B4.out ?_ ?_; (focus (intro V; go_simp; done)); go_big_quiet_on)
          | (refine gq_call M1.out ?_ ?_; (focus (intro V; go_simp; done)); go_big_quiet_on)
          | (refine gq_call M2.out ?_ ?_; (focus (intro V; go_simp; done)); go_big_quiet_on)
          | (refine gq_call HZ.out ?_ ?_; (focus (intro V; go_simp; done)); go_big_quiet_on)
          | (refine gq_op (v := ?_) ?_ ?_; rotate_left; (focus (intro V hV; go_simp; try with_reducible rfl)); go_big_quiet_on))
        simp only [Act.put, List.setIfInBounds_toArray, List.set_cons_zero, List.set_cons_succ])
    refine wpQuiet_nil ?_
    intro V hV
    go_wp2_with fail
    go_ret
    refine ⟨by simp [h1], HM.out.trans hV⟩
end Go.Proofs.Ytgebcpfgihcoiaa
