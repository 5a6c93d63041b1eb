/- Texts laid as one: Sgm1, Sgm2, Sgm3. -/
import Derived.Test.YtdllgmhipenidaaDiskA
import Derived.Test.YtdllgmhipenidaaSegP
import Derived.Test.YtdllgmhipenidaaIMap
import Derived.Deep.RegionHeld
import Derived.Deep.QuietTactic
import Derived.BigQuiet
import Derived.Laws.BitsAllLaws
import Derived.Test.YtdllgmhipenidaaSumsM
import Derived.Test.YtdllgmhipenidaaGQ
import Derived.StillTailTactics
import Derived.BigRegion

section
/- Package segment: a block's numbers. -/
namespace Go.Proofs.Ytdllgmhipenidaa
set_option maxRecDepth 100000
open Go.RowKit
set_option linter.unusedVariables false

theorem infoSB : (Try.prog.info? 124).map (fun i => (i.zero, i.size, i.bytes)) = some (some (.agg (Array.replicate 64 (.int .u8 0))), 64, 64) := by kernel_rfl
theorem infoSB2 : (Try.prog.info? 124).map (·.size) = some 64 := by kernel_rfl
/-- A block as a value. -/
def aggB (b : List UInt8) : Value := .agg (bts b).toArray
theorem infoSB3 {b : List UInt8} (h : b.length = 64) : (Try.prog.info? 124).map (·.size) = some (bts b).length := by rw [bts_length, h]; exact infoSB2
theorem sb_cell {w w' : World} {b : List UInt8} (h : b.length = 64) (hm : Mods Nil (w.alloc (.cells (bts b).toArray 124)) w') (i : Nat) (hi : i < 64) : w'.cell? ⟨w.heap.size, i, none⟩ = some (.int .u8 (byteP b i : Nat)) := by
  have hB := (Blk.new w 124 (bts b).toArray).mods hm (fun h => h)
  rw [hB.cell i]
  have := bts_get b i (by omega)
  simp only [List.getElem?_toArray]
  rw [this]
  unfold byteP
  simp [List.getD_eq_getElem?_getD, show i < b.length by omega]
theorem byteP_lt (b : List UInt8) (i : Nat) : byteP b i < 256 := (b.getD i 0).toNat_lt
theorem numP_lt (b : List UInt8) (i : Nat) : numP b i < 4294967296 := by
  have h0 := byteP_lt b i
  have h1 := byteP_lt b (i + 1)
  have h2 := byteP_lt b (i + 2)
  have h3 := byteP_lt b (i + 3)
  unfold numP
  omega

theorem or_u32 (a n b : Nat) (hb : b < 2 ^ n) (h : a * 2 ^ n + b < 4294967296) : bits .or .u32 ((a * 2 ^ n : Nat) : Int) (b : Int) = ((a * 2 ^ n + b : Nat) : Int) := by
  have e := Nat.two_pow_add_eq_or_of_lt hb a
  rw [Nat.mul_comm] at e
  rw [u32_or_nat _ _ (by omega) (by omega), e]
theorem snumber_any (w : World) {b : List UInt8} (h : b.length = 64) {k : Nat} (hk : k ≤ 60) : Calls Try.prog 112 #[aggB b, .int .i64 (k : Int)] w fun e w' => e = .returned (.int .u32 (numP b k : Nat)) ∧ Mods Nil w w' := by
  have c0 := fun w' hm => sb_cell (w := w) (w' := w') h hm k (by omega)
  have c1 := fun w' hm => sb_cell (w := w) (w' := w') h hm (k + 1) (by omega)
  have c2 := fun w' hm => sb_cell (w := w) (w' := w') h hm (k + 2) (by omega)
  have c3 := fun w' hm => sb_cell (w := w) (w' := w') h hm (k + 3) (by omega)
  have e : numP b k = byteP b k * 16777216 + byteP b (k + 1) * 65536 + byteP b (k + 2) * 256 + byteP b (k + 3) := rfl
  have b0 := byteP_lt b k
  have b1 := byteP_lt b (k + 1)
  have b2 := byteP_lt b (k + 2)
  have b3 := byteP_lt b (k + 3)
  generalize byteP b k = x0 at *
  generalize byteP b (k + 1) = x1 at *
  generalize byteP b (k + 2) = x2 at *
  generalize byteP b (k + 3) = x3 at *
  generalize numP b k = q at *
  have d0 := c0 _ (Mods.refl Nil _)
  have d1 := c1 _ (Mods.refl Nil _)
  have d2 := c2 _ (Mods.refl Nil _)
  have d3 := c3 _ (Mods.refl Nil _)
  clear c0 c1 c2 c3
  unfold aggB
  obtain ⟨W, hW⟩ : ∃ W, w.alloc (.cells (bts b).toArray 124) = W := ⟨_, rfl⟩
  have HM : Hid (Mods Nil w W) := by rw [← hW]; exact (Mods.refl Nil w).alloc _
  rw [hW] at d0 d1 d2 d3
  have o1 : bits .or .u32 ((x0 : Int) * 16777216) ((x1 : Int) * 65536) = ((x0 * 16777216 + x1 * 65536 : Nat) : Int) := by
    have := or_u32 x0 24 (x1 * 65536) (by omega) (by omega)
    simpa using this
  have o2 : bits .or .u32 ((x0 * 16777216 + x1 * 65536 : Nat) : Int) ((x2 : Int) * 256) = ((x0 * 16777216 + x1 * 65536 + x2 * 256 : Nat) : Int) := by
    have := or_u32 (x0 * 256 + x1) 16 (x2 * 256) (by omega) (by omega)
    rw [show (x0 * 256 + x1) * 2 ^ 16 = x0 * 16777216 + x1 * 65536 by omega] at this
    simpa using this
  have o3 : bits .or .u32 ((x0 * 16777216 + x1 * 65536 + x2 * 256 : Nat) : Int) (x3 : Int) = (q : Int) := by
    have := or_u32 (x0 * 65536 + x1 * 256 + x2) 8 x3 (by omega) (by omega)
    rw [show (x0 * 65536 + x1 * 256 + x2) * 2 ^ 8 = x0 * 16777216 + x1 * 65536 + x2 * 256 by omega] at this
    rw [this, e]
  obtain ⟨z1, hz1⟩ : ∃ z : Int, ((x0 * 16777216 + x1 * 65536 : Nat) : Int) = z := ⟨_, rfl⟩
  obtain ⟨z2, hz2⟩ : ∃ z : Int, ((x0 * 16777216 + x1 * 65536 + x2 * 256 : Nat) : Int) = z := ⟨_, rfl⟩
  rw [hz1] at o1 o2
  rw [hz2] at o2 o3
  clear hz1 hz2
  clear h e
  have k1 : IntKind.i64.wrap ((k : Int) + 1) = (k : Int) + 1 := by rw [IntKind.wrap_i64]; omega
  have k2 : IntKind.i64.wrap ((k : Int) + 2) = (k : Int) + 2 := by rw [IntKind.wrap_i64]; omega
  have k3 : IntKind.i64.wrap ((k : Int) + 3) = (k : Int) + 3 := by rw [IntKind.wrap_i64]; omega
  go_enter Try.func112, Try.ntmps112
  go_wp2_with fail
  go_quiet (fail)
  all_goals
    go_wp2_with fail
    go_ret
    exact ⟨rfl, HM.out.drewN nq⟩
theorem snumber0 (w : World) {b : List UInt8} (h : b.length = 64) : Calls Try.prog 112 #[.agg (bts b).toArray, .int .i64 0] w fun e w' => e = .returned (.int .u32 (numP b 0 : Nat)) ∧ Mods Nil w w' := snumber_any w h (k := 0) (by omega)
theorem snumber4 (w : World) {b : List UInt8} (h : b.length = 64) : Calls Try.prog 112 #[.agg (bts b).toArray, .int .i64 4] w fun e w' => e = .returned (.int .u32 (numP b 4 : Nat)) ∧ Mods Nil w w' := snumber_any w h (k := 4) (by omega)
theorem snumber60 (w : World) {b : List UInt8} (h : b.length = 64) : Calls Try.prog 112 #[.agg (bts b).toArray, .int .i64 60] w fun e w' => e = .returned (.int .u32 (numP b 60 : Nat)) ∧ Mods Nil w w' := snumber_any w h (k := 60) (by omega)
theorem smany_any (w : World) {b : List UInt8} (h : b.length = 64) : Calls Try.prog 115 #[.agg (bts b).toArray] w fun e w' => e = .returned (.int .i64 (byteP b 9 : Nat)) ∧ Mods Nil w w' := by
  have c9 := sb_cell (w := w) h (Mods.refl Nil _) 9 (by omega)
  have hb := byteP_lt b 9
  generalize byteP b 9 = x at *
  have hw : IntKind.i64.wrap (x : Int) = (x : Int) := by rw [IntKind.wrap_i64]; omega
  obtain ⟨W, hW⟩ : ∃ W, w.alloc (.cells (bts b).toArray 124) = W := ⟨_, rfl⟩
  have HM : Hid (Mods Nil w W) := by rw [← hW]; exact (Mods.refl Nil w).alloc _
  rw [hW] at c9
  clear h
  go_enter Try.func115, Try.ntmps115
  go_wp2_with fail
  go_ret
  exact ⟨rfl, HM.out⟩
theorem sb_range {w w' : World} {b : List UInt8} (hm : Mods Nil (w.alloc (.cells (bts b).toArray 124)) w') : w'.rangeAt w.heap.size 0 (bts b) := by
  have hB := (Blk.new w 124 (bts b).toArray).mods hm (fun h => h)
  intro j u hu
  rw [Nat.zero_add, hB.cell j]
  simpa using hu
theorem sdata_any (w : World) {b : List UInt8} (h : b.length = 64) {q : Nat} (hq : byteP b 10 = q) (hq45 : q ≤ 45) : Calls Try.prog 117 #[.agg (bts b).toArray] w fun e w' => ∃ A c, e = .returned (.slice A q c) ∧ (dataP b).length = q ∧ Sl w' A c (bts (dataP b)) ∧ Mods Nil w w' := by
  have c10 := sb_cell (w := w) h (Mods.refl Nil _) 10 (by omega)
  rw [hq] at c10
  have hR := Lib.hid (sb_range (w := w) (b := b) (Mods.refl Nil _))
  have hd : dataP b = (b.drop 11).take q := by unfold dataP; rw [hq]
  have hl : (dataP b).length = q := by rw [hd]; simp; omega
  have hw : IntKind.i64.wrap (q : Int) = (q : Int) := by rw [IntKind.wrap_i64]; omega
  have hw2 : IntKind.i64.wrap (11 + (q : Int)) = 11 + (q : Int) := by rw [IntKind.wrap_i64]; omega
  have hI : (q : Int) ≤ 45 := by omega
  have hI2 : 11 + (q : Int) ≤ 64 := by omega
  have hI3 : (11 : Int) ≤ 11 + (q : Int) := by omega
  have hN : (11 + (q : Int)).toNat = 11 + q := by omega
  have hN2 : 11 + q - 11 = q := by omega
  have HS : Hid (∀ W c', W.rangeAt w.heap.size 0 (bts b) → 53 = c' → Sl W (some ⟨w.heap.size, 11, none⟩) c' (bts (dataP b))) := Lib.hid (fun W c' hr hc => by
    subst hc
    refine ⟨by rw [bts_length]; omega, by unfold maxLen; omega, (fun h => by cases h), .inr ⟨w.heap.size, 11, rfl, fun j u hu => ?_⟩⟩
    have hj : j < q := by have := (List.getElem?_eq_some_iff.1 hu).1; rw [bts_length, hl] at this; exact this
    have hr' := hr (11 + j) u
    rw [Nat.zero_add] at hr'
    refine hr' ?_
    rw [hd, ← bts_take, ← bts_drop, List.getElem?_take, if_pos hj, List.getElem?_drop] at hu
    exact hu)
  have HL := Lib.hid hl
  obtain ⟨W, hW⟩ : ∃ W, w.alloc (.cells (bts b).toArray 124) = W := ⟨_, rfl⟩
  have HM : Hid (Mods Nil w W) := by rw [← hW]; exact (Mods.refl Nil w).alloc _
  rw [hW] at c10 hR
  clear h hq hd hl
  go_enter Try.func117, Try.ntmps117
  go_wp2_with fail
  go_ret
  exact ⟨_, _, rfl, HL.out, HS.out _ _ hR.out (by omega), HM.out⟩
end Go.Proofs.Ytdllgmhipenidaa
end

section
/- Package segment: what a block tells. -/
namespace Go.Proofs.Ytdllgmhipenidaa
set_option maxRecDepth 100000
open Go.RowKit
set_option linter.unusedVariables false

/-- Right, and with no more bytes than may be. -/
def rightQ (b : List UInt8) : Bool := rightP b && decide (byteP b 10 ≤ 45)
theorem four_get {b : List UInt8} (h : b.length = 64) {k : Nat} (hk : k ≤ 60) (i : Nat) (hi : i < 4) : ((b.drop k).take 4).getD i 0 = b.getD (k + i) 0 := by
  simp [List.getD_eq_getElem?_getD, List.getElem?_drop, hi]
theorem four_ext {x y : List UInt8} (hx : x.length = 4) (hy : y.length = 4) (h : ∀ i, i < 4 → x.getD i 0 = y.getD i 0) : x = y := by
  apply List.ext_getElem (by omega)
  intro i h1 h2
  have := h i (by omega)
  simpa [List.getD_eq_getElem?_getD, h1, h2] using this
theorem num_four {b : List UInt8} (h : b.length = 64) : (numP b 0 = numP b 60) ↔ b.take 4 = b.drop 60 := by
  have hd : b.drop 60 = (b.drop 60).take 4 := by rw [List.take_of_length_le (by simp; omega)]
  have h0 : b.take 4 = (b.drop 0).take 4 := by simp
  constructor
  · intro e
    rw [hd, h0]
    refine four_ext (by simp; omega) (by simp; omega) (fun i hi => ?_)
    rw [four_get h (by omega) i hi, four_get h (by omega) i hi]
    have key : ∀ j, j < 4 → byteP b (0 + j) = byteP b (60 + j) := by
      unfold numP at e
      have a0 := byteP_lt b 0
      have a1 := byteP_lt b 1
      have a2 := byteP_lt b 2
      have a3 := byteP_lt b 3
      have c0 := byteP_lt b 60
      have c1 := byteP_lt b 61
      have c2 := byteP_lt b 62
      have c3 := byteP_lt b 63
      intro j hj
      match j, hj with
      | 0, _ => simp only [Nat.reduceAdd, Nat.zero_add, Nat.add_zero] at *; omega
      | 1, _ => simp only [Nat.reduceAdd, Nat.zero_add] at *; omega
      | 2, _ => simp only [Nat.reduceAdd, Nat.zero_add] at *; omega
      | 3, _ => simp only [Nat.reduceAdd, Nat.zero_add] at *; omega
    have := key i hi
    unfold byteP at this
    exact UInt8.toNat_inj.1 this
  · intro e
    have key : ∀ i, i < 4 → byteP b (0 + i) = byteP b (60 + i) := fun i hi => by
      unfold byteP
      rw [← four_get h (by omega) i hi, ← four_get h (by omega) i hi, ← hd, ← h0, e]
    have k0 := key 0 (by omega)
    have k1 := key 1 (by omega)
    have k2 := key 2 (by omega)
    have k3 := key 3 (by omega)
    unfold numP
    simp only [Nat.reduceAdd, Nat.zero_add, Nat.add_zero] at *
    omega
theorem rightP_num {b : List UInt8} (h : b.length = 64) : rightP b = (rightOf (b.take 60) && decide (numP b 0 = numP b 60)) := by
  unfold rightP
  congr 1
  rw [Bool.eq_iff_iff]
  simp [num_four h]

set_option maxHeartbeats 3200000 in
theorem sright_any (w : World) {b : List UInt8} (h : b.length = 64) : Calls Try.prog 113 #[.agg (bts b).toArray] w fun e w' => e = .returned (.bool (rightQ b)) ∧ Mods Nil w w' := by
  obtain ⟨W, hW⟩ : ∃ W, w.alloc (.cells (bts b).toArray 124) = W := ⟨_, rfl⟩
  have HM : Hid (Mods Nil w W) := by rw [← hW]; exact (Mods.refl Nil w).alloc _
  have R1 : Hid (∀ V, Mods Nil W V → V.rangeAt w.heap.size 0 (bts b)) := by subst hW; exact Lib.hid (fun V hm => sb_range hm)
  have c10 : ∀ V, Mods Nil W V → V.cell? ⟨w.heap.size, 10, none⟩ = some (.int .u8 (byteP b 10 : Nat)) := by subst hW; exact fun V hm => sb_cell h hm 10 (by omega)
  have h60 : (b.take 60).length = 60 := by simp; omega
  have HR : Hid (∀ V, Mods Nil W V → Calls Try.prog 124 #[.slice (some ⟨w.heap.size, 0, none⟩) 60 64] V fun e V' => e = .returned (.bool (rightOf (b.take 60))) ∧ Mods Nil W V') := Lib.hid (fun V hV => by
    refine (right_any h60 ?_).mono (fun e V' h => ⟨h.1, hV.trans h.2⟩)
    have hr := R1.out V hV
    refine ⟨by simp; omega, by unfold maxLen; omega, (fun h => by cases h), .inr ⟨w.heap.size, 0, rfl, fun j u hu => hr j u ?_⟩⟩
    rw [← bts_take, List.getElem?_take] at hu
    split at hu
    · exact hu
    · cases hu)
  have hinfo := Lib.hid (infoSB3 h)
  have HN0 := Lib.hid (gq_of (W := W) (fun V => snumber0 V h))
  have HN6 := Lib.hid (gq_of (W := W) (fun V => snumber60 V h))
  have hq : rightQ b = (rightOf (b.take 60) && decide (numP b 0 = numP b 60) && decide (byteP b 10 ≤ 45)) := by unfold rightQ; rw [rightP_num h]
  rw [hq]
  have b10 := byteP_lt b 10
  clear h60 h hq
  obtain ⟨x, hx⟩ : ∃ x, numP b 0 = x := ⟨_, rfl⟩
  obtain ⟨y, hy⟩ : ∃ y, numP b 60 = y := ⟨_, rfl⟩
  obtain ⟨z, hz⟩ : ∃ z, byteP b 10 = z := ⟨_, rfl⟩
  obtain ⟨r, hr⟩ : ∃ r, rightOf (b.take 60) = r := ⟨_, rfl⟩
  rw [hx] at HN0
  rw [hy] at HN6
  rw [hz] at c10 b10
  rw [hr] at HR
  rw [hx, hy, hz, hr]
  clear hx hy hz hr
  cases r with
  | false =>
    go_enter Try.func113, Try.ntmps113
    go_wp2_with fail
    refine gq_region (by kernel_rfl) (by kernel_rfl) ?_
    repeat (first
      | go_big_quiet_skip
      | (go_big_quiet_want; first
          | (refine gq_load_row 124 _ rfl _ _ rfl (bts b) _ R1.out Try.underlying124 rfl hinfo.out ?_; go_big_quiet_on)
          | (refine gq_call HR.out ?_ ?_; (focus (intro V; go_simp; done)); go_big_quiet_on)
          | (refine gq_call HN0.out ?_ ?_; (focus (intro V; go_simp; done)); go_big_quiet_on)
          | (refine gq_call HN6.out ?_ ?_; (focus (intro V; go_simp; done)); go_big_quiet_on)
          | (refine gq_op (v := ?_) ?_ ?_; rotate_left; (focus (intro V hV; go_simp; try with_reducible rfl)); go_big_quiet_on))
        simp only [Act.put, List.setIfInBounds_toArray, List.set_cons_zero, List.set_cons_succ])
    refine wpQuiet_nil ?_
    intro V hV
    go_wp2_with fail
    go_ret
    refine ⟨rfl, HM.out.trans hV⟩
  | true =>
    by_cases hxy : x = y
    · subst hxy
      by_cases hz45 : z ≤ 45
      · have hzI : (z : Int) ≤ 45 := by omega
        go_enter Try.func113, Try.ntmps113
        go_wp2_with fail
        refine gq_region (by kernel_rfl) (by kernel_rfl) ?_
        repeat (first
          | go_big_quiet_skip
          | (go_big_quiet_want; first
              | (refine gq_load_row 124 _ rfl _ _ rfl (bts b) _ R1.out Try.underlying124 rfl hinfo.out ?_; go_big_quiet_on)
              | (refine gq_call HR.out ?_ ?_; (focus (intro V; go_simp; done)); go_big_quiet_on)
              | (refine gq_call HN0.out ?_ ?_; (focus (intro V; go_simp; done)); go_big_quiet_on)
              | (refine gq_call HN6.out ?_ ?_; (focus (intro V; go_simp; done)); go_big_quiet_on)
              | (refine gq_op (v := ?_) ?_ ?_; rotate_left; (focus (intro V hV; go_simp; try with_reducible rfl)); go_big_quiet_on))
            simp only [Act.put, List.setIfInBounds_toArray, List.set_cons_zero, List.set_cons_succ])
        refine wpQuiet_nil ?_
        intro V hV
        go_wp2_with fail
        go_ret
        refine ⟨by simp [hz45] <;> omega, HM.out.trans hV⟩
      · have hzI : (45 : Int) < (z : Int) := by omega
        go_enter Try.func113, Try.ntmps113
        go_wp2_with fail
        refine gq_region (by kernel_rfl) (by kernel_rfl) ?_
        repeat (first
          | go_big_quiet_skip
          | (go_big_quiet_want; first
              | (refine gq_load_row 124 _ rfl _ _ rfl (bts b) _ R1.out Try.underlying124 rfl hinfo.out ?_; go_big_quiet_on)
              | (refine gq_call HR.out ?_ ?_; (focus (intro V; go_simp; done)); go_big_quiet_on)
              | (refine gq_call HN0.out ?_ ?_; (focus (intro V; go_simp; done)); go_big_quiet_on)
              | (refine gq_call HN6.out ?_ ?_; (focus (intro V; go_simp; done)); go_big_quiet_on)
              | (refine gq_op (v := ?_) ?_ ?_; rotate_left; (focus (intro V hV; go_simp; try with_reducible rfl)); go_big_quiet_on))
            simp only [Act.put, List.setIfInBounds_toArray, List.set_cons_zero, List.set_cons_succ])
        refine wpQuiet_nil ?_
        intro V hV
        go_wp2_with fail
        go_ret
        refine ⟨by simp [hz45] <;> omega, HM.out.trans hV⟩
    · have hxyI : ((x : Int) == (y : Int)) = false := by simp; omega
      go_enter Try.func113, Try.ntmps113
      go_wp2_with fail
      refine gq_region (by kernel_rfl) (by kernel_rfl) ?_
      repeat (first
        | go_big_quiet_skip
        | (go_big_quiet_want; first
            | (refine gq_load_row 124 _ rfl _ _ rfl (bts b) _ R1.out Try.underlying124 rfl hinfo.out ?_; go_big_quiet_on)
            | (refine gq_call HR.out ?_ ?_; (focus (intro V; go_simp; done)); go_big_quiet_on)
            | (refine gq_call HN0.out ?_ ?_; (focus (intro V; go_simp; done)); go_big_quiet_on)
            | (refine gq_call HN6.out ?_ ?_; (focus (intro V; go_simp; done)); go_big_quiet_on)
            | (refine gq_op (v := ?_) ?_ ?_; rotate_left; (focus (intro V hV; go_simp; try with_reducible rfl)); go_big_quiet_on))
          simp only [Act.put, List.setIfInBounds_toArray, List.set_cons_zero, List.set_cons_succ])
      refine wpQuiet_nil ?_
      intro V hV
      go_wp2_with fail
      go_ret
      refine ⟨by simp [hxy] <;> omega, HM.out.trans hV⟩
/-- It has as many bytes as a part at a place may. -/
def sizedP (b : List UInt8) (part : Nat) : Bool := if part + 1 < byteP b 9 then decide (byteP b 10 = 45) else decide (0 < byteP b 10 ∨ byteP b 9 = 1)
set_option maxHeartbeats 3200000 in
theorem ssized_any (w : World) {b : List UInt8} (h : b.length = 64) (part : Nat) (hp : part ≤ 1000000) : Calls Try.prog 127 #[.agg (bts b).toArray, .int .i64 (part : Int)] w fun e w' => e = .returned (.bool (sizedP b part)) ∧ Mods Nil w w' := by
  obtain ⟨W, hW⟩ : ∃ W, w.alloc (.cells (bts b).toArray 124) = W := ⟨_, rfl⟩
  have HM : Hid (Mods Nil w W) := by rw [← hW]; exact (Mods.refl Nil w).alloc _
  have R1 : Hid (∀ V, Mods Nil W V → V.rangeAt w.heap.size 0 (bts b)) := by subst hW; exact Lib.hid (fun V hm => sb_range hm)
  have c10 : Hid (∀ V, Mods Nil W V → V.cell? ⟨w.heap.size, 10, none⟩ = some (.int .u8 (byteP b 10 : Nat))) := by subst hW; exact Lib.hid (fun V hm => sb_cell h hm 10 (by omega))
  have hinfo := Lib.hid (infoSB3 h)
  have HN := Lib.hid (fun V => smany_any V h)
  have e : sizedP b part = if part + 1 < byteP b 9 then decide (byteP b 10 = 45) else decide (0 < byteP b 10 ∨ byteP b 9 = 1) := rfl
  rw [e]
  have b9 := byteP_lt b 9
  have b10 := byteP_lt b 10
  clear h e
  obtain ⟨x, hx⟩ : ∃ x, byteP b 9 = x := ⟨_, rfl⟩
  obtain ⟨z, hz⟩ : ∃ z, byteP b 10 = z := ⟨_, rfl⟩
  rw [hx] at HN b9
  rw [hz] at c10 b10
  rw [hx, hz]
  clear hx hz
  have hwx : IntKind.i64.wrap ((x : Int) - 1) = (x : Int) - 1 := by rw [IntKind.wrap_i64]; omega
  by_cases h1 : part + 1 < x
  · have h1I : (part : Int) < (x : Int) - 1 := by omega
    rw [if_pos h1]
    by_cases hz : z = 45
    · subst hz
      go_enter Try.func127, Try.ntmps127
      go_wp2_with (first
        | (refine gw_load_mid (by rfl) 124 _ rfl _ _ rfl (bts b) _ (R1.out _ (by first | assumption | exact Mods.refl _ _)) Try.underlying124 rfl hinfo.out ?_)
        | (go_at_call 115; refine (HN.out _).mono ?_; rintro e w2 ⟨rfl, m2⟩; have q2 : Mods Nil W w2 := Mods.trans (by first | assumption | exact Mods.refl _ _) m2; have d10 := c10.out _ q2))
      go_ret
      refine ⟨by simp, HM.out.trans (by assumption)⟩
    · have hzI : ((z : Int) == 45) = false := by simp; omega
      go_enter Try.func127, Try.ntmps127
      go_wp2_with (first
        | (refine gw_load_mid (by rfl) 124 _ rfl _ _ rfl (bts b) _ (R1.out _ (by first | assumption | exact Mods.refl _ _)) Try.underlying124 rfl hinfo.out ?_)
        | (go_at_call 115; refine (HN.out _).mono ?_; rintro e w2 ⟨rfl, m2⟩; have q2 : Mods Nil W w2 := Mods.trans (by first | assumption | exact Mods.refl _ _) m2; have d10 := c10.out _ q2))
      go_ret
      refine ⟨by simp [hz], HM.out.trans (by assumption)⟩
  · have h1I : (x : Int) - 1 ≤ (part : Int) := by omega
    rw [if_neg h1]
    by_cases hz : 0 < z
    · have hzI : (0 : Int) < (z : Int) := by omega
      go_enter Try.func127, Try.ntmps127
      go_wp2_with (first
        | (refine gw_load_mid (by rfl) 124 _ rfl _ _ rfl (bts b) _ (R1.out _ (by first | assumption | exact Mods.refl _ _)) Try.underlying124 rfl hinfo.out ?_)
        | (go_at_call 115; refine (HN.out _).mono ?_; rintro e w2 ⟨rfl, m2⟩; have q2 : Mods Nil W w2 := Mods.trans (by first | assumption | exact Mods.refl _ _) m2; have d10 := c10.out _ q2))
      go_ret
      refine ⟨by simp [hz], HM.out.trans (by assumption)⟩
    · obtain rfl : z = 0 := by omega
      by_cases hx1 : x = 1
      · subst hx1
        go_enter Try.func127, Try.ntmps127
        go_wp2_with (first
          | (refine gw_load_mid (by rfl) 124 _ rfl _ _ rfl (bts b) _ (R1.out _ (by first | assumption | exact Mods.refl _ _)) Try.underlying124 rfl hinfo.out ?_)
          | (go_at_call 115; refine (HN.out _).mono ?_; rintro e w2 ⟨rfl, m2⟩; have q2 : Mods Nil W w2 := Mods.trans (by first | assumption | exact Mods.refl _ _) m2; have d10 := c10.out _ q2))
        go_ret
        refine ⟨by simp, HM.out.trans (by assumption)⟩
      · have hxI : ((x : Int) == 1) = false := by simp; omega
        go_enter Try.func127, Try.ntmps127
        go_wp2_with (first
          | (refine gw_load_mid (by rfl) 124 _ rfl _ _ rfl (bts b) _ (R1.out _ (by first | assumption | exact Mods.refl _ _)) Try.underlying124 rfl hinfo.out ?_)
          | (go_at_call 115; refine (HN.out _).mono ?_; rintro e w2 ⟨rfl, m2⟩; have q2 : Mods Nil W w2 := Mods.trans (by first | assumption | exact Mods.refl _ _) m2; have d10 := c10.out _ q2))
        go_ret
        refine ⟨by simp [hx1], HM.out.trans (by assumption)⟩
/-- It may be the first block of a record. -/
def beginsP (b : List UInt8) (pl e : Nat) : Bool := decide (numP b 4 = pl + 1 ∧ e ≤ numP b 0 ∧ 1 ≤ byteP b 9 ∧ byteP b 9 ≤ 92)
set_option maxHeartbeats 3200000 in
theorem sbegins_any (w : World) {b : List UInt8} (h : b.length = 64) {pl e : Nat} (hp : pl ≤ 1000000) (he : e < 4294967296) : Calls Try.prog 114 #[.agg (bts b).toArray, .int .i64 (pl : Int), .int .u32 (e : Int)] w fun r w' => r = .returned (.bool (beginsP b pl e)) ∧ Mods Nil w w' := by
  obtain ⟨W, hW⟩ : ∃ W, w.alloc (.cells (bts b).toArray 124) = W := ⟨_, rfl⟩
  have HM : Hid (Mods Nil w W) := by rw [← hW]; exact (Mods.refl Nil w).alloc _
  have R1 : Hid (∀ V, Mods Nil W V → V.rangeAt w.heap.size 0 (bts b)) := by subst hW; exact Lib.hid (fun V hm => sb_range hm)
  have hinfo := Lib.hid (infoSB3 h)
  have HN := Lib.hid (fun V => smany_any V h)
  have H0 := Lib.hid (fun V => snumber0 V h)
  have H4 := Lib.hid (fun V => snumber4 V h)
  have e0 : beginsP b pl e = decide (numP b 4 = pl + 1 ∧ e ≤ numP b 0 ∧ 1 ≤ byteP b 9 ∧ byteP b 9 ≤ 92) := rfl
  rw [e0]
  have b9 := byteP_lt b 9
  clear h e0
  obtain ⟨x, hx⟩ : ∃ x, byteP b 9 = x := ⟨_, rfl⟩
  obtain ⟨y, hy⟩ : ∃ y, numP b 0 = y := ⟨_, rfl⟩
  obtain ⟨z, hz⟩ : ∃ z, numP b 4 = z := ⟨_, rfl⟩
  obtain ⟨p, hpp⟩ : ∃ p, pl + 1 = p := ⟨_, rfl⟩
  rw [hx] at HN b9
  rw [hy] at H0
  rw [hz] at H4
  rw [hx, hy, hz, hpp]
  have hpI : (pl : Int) + 1 = (p : Int) := by omega
  have hw1 : IntKind.i64.wrap (p : Int) = (p : Int) := by rw [IntKind.wrap_i64]; omega
  have hw2 : IntKind.u32.wrap (p : Int) = (p : Int) := by rw [IntKind.wrap_u32]; omega
  have hb9 : (x : Int) < 256 := by omega
  clear hx hy hz hpp
  by_cases h1 : z = p
  · subst h1
    by_cases h2 : e ≤ y
    · have h2I : (e : Int) ≤ (y : Int) := by omega
      by_cases h3 : 1 ≤ x
      · have h3I : (1 : Int) ≤ (x : Int) := by omega
        by_cases h4 : x ≤ 92
        · have h4I : (x : Int) ≤ 92 := by omega
          go_enter Try.func114, Try.ntmps114
          go_wp2_with (first
            | (refine gw_load_mid (by rfl) 124 _ rfl _ _ rfl (bts b) _ (R1.out _ (by first | assumption | exact Mods.refl _ _)) Try.underlying124 rfl hinfo.out ?_)
            | (go_at_call 115; with_reducible refine (HN.out _).mono ?_; rintro r w2 ⟨rfl, m2⟩; have q2 : Mods Nil W w2 := Mods.trans (by first | assumption | exact Mods.refl _ _) m2)
            | (go_at_call 112; with_reducible refine (H0.out _).mono ?_; rintro r w2 ⟨rfl, m2⟩; have q2 : Mods Nil W w2 := Mods.trans (by first | assumption | exact Mods.refl _ _) m2)
            | (go_at_call 112; with_reducible refine (H4.out _).mono ?_; rintro r w2 ⟨rfl, m2⟩; have q2 : Mods Nil W w2 := Mods.trans (by first | assumption | exact Mods.refl _ _) m2))
          go_ret
          refine ⟨by first | (simp; done) | (simp; omega), HM.out.trans (by assumption)⟩
        · have h4I : (92 : Int) < (x : Int) := by omega
          go_enter Try.func114, Try.ntmps114
          go_wp2_with (first
            | (refine gw_load_mid (by rfl) 124 _ rfl _ _ rfl (bts b) _ (R1.out _ (by first | assumption | exact Mods.refl _ _)) Try.underlying124 rfl hinfo.out ?_)
            | (go_at_call 115; with_reducible refine (HN.out _).mono ?_; rintro r w2 ⟨rfl, m2⟩; have q2 : Mods Nil W w2 := Mods.trans (by first | assumption | exact Mods.refl _ _) m2)
            | (go_at_call 112; with_reducible refine (H0.out _).mono ?_; rintro r w2 ⟨rfl, m2⟩; have q2 : Mods Nil W w2 := Mods.trans (by first | assumption | exact Mods.refl _ _) m2)
            | (go_at_call 112; with_reducible refine (H4.out _).mono ?_; rintro r w2 ⟨rfl, m2⟩; have q2 : Mods Nil W w2 := Mods.trans (by first | assumption | exact Mods.refl _ _) m2))
          go_ret
          refine ⟨by simp [h2, h3, h4] <;> omega, HM.out.trans (by assumption)⟩
      · have h3I : (x : Int) < 1 := by omega
        go_enter Try.func114, Try.ntmps114
        go_wp2_with (first
          | (refine gw_load_mid (by rfl) 124 _ rfl _ _ rfl (bts b) _ (R1.out _ (by first | assumption | exact Mods.refl _ _)) Try.underlying124 rfl hinfo.out ?_)
          | (go_at_call 115; with_reducible refine (HN.out _).mono ?_; rintro r w2 ⟨rfl, m2⟩; have q2 : Mods Nil W w2 := Mods.trans (by first | assumption | exact Mods.refl _ _) m2)
          | (go_at_call 112; with_reducible refine (H0.out _).mono ?_; rintro r w2 ⟨rfl, m2⟩; have q2 : Mods Nil W w2 := Mods.trans (by first | assumption | exact Mods.refl _ _) m2)
          | (go_at_call 112; with_reducible refine (H4.out _).mono ?_; rintro r w2 ⟨rfl, m2⟩; have q2 : Mods Nil W w2 := Mods.trans (by first | assumption | exact Mods.refl _ _) m2))
        go_ret
        refine ⟨by first | (simp; done) | (simp; omega), HM.out.trans (by assumption)⟩
    · have h2I : (y : Int) < (e : Int) := by omega
      go_enter Try.func114, Try.ntmps114
      go_wp2_with (first
        | (refine gw_load_mid (by rfl) 124 _ rfl _ _ rfl (bts b) _ (R1.out _ (by first | assumption | exact Mods.refl _ _)) Try.underlying124 rfl hinfo.out ?_)
        | (go_at_call 115; with_reducible refine (HN.out _).mono ?_; rintro r w2 ⟨rfl, m2⟩; have q2 : Mods Nil W w2 := Mods.trans (by first | assumption | exact Mods.refl _ _) m2)
        | (go_at_call 112; with_reducible refine (H0.out _).mono ?_; rintro r w2 ⟨rfl, m2⟩; have q2 : Mods Nil W w2 := Mods.trans (by first | assumption | exact Mods.refl _ _) m2)
        | (go_at_call 112; with_reducible refine (H4.out _).mono ?_; rintro r w2 ⟨rfl, m2⟩; have q2 : Mods Nil W w2 := Mods.trans (by first | assumption | exact Mods.refl _ _) m2))
      go_ret
      refine ⟨by first | (simp; done) | (simp; omega), HM.out.trans (by assumption)⟩
  · have h1I : ((z : Int) == (p : Int)) = false := by simp; omega
    go_enter Try.func114, Try.ntmps114
    go_wp2_with (first
      | (refine gw_load_mid (by rfl) 124 _ rfl _ _ rfl (bts b) _ (R1.out _ (by first | assumption | exact Mods.refl _ _)) Try.underlying124 rfl hinfo.out ?_)
      | (go_at_call 115; with_reducible refine (HN.out _).mono ?_; rintro r w2 ⟨rfl, m2⟩; have q2 : Mods Nil W w2 := Mods.trans (by first | assumption | exact Mods.refl _ _) m2)
      | (go_at_call 112; with_reducible refine (H0.out _).mono ?_; rintro r w2 ⟨rfl, m2⟩; have q2 : Mods Nil W w2 := Mods.trans (by first | assumption | exact Mods.refl _ _) m2)
      | (go_at_call 112; with_reducible refine (H4.out _).mono ?_; rintro r w2 ⟨rfl, m2⟩; have q2 : Mods Nil W w2 := Mods.trans (by first | assumption | exact Mods.refl _ _) m2))
    go_ret
    refine ⟨by first | (simp; done) | (simp; omega), HM.out.trans (by assumption)⟩
/-- It is a part of the record that has this first block. -/
def contP (b f : List UInt8) (part : Nat) : Bool := decide (numP b 0 = numP f 0 ∧ numP b 4 = numP f 4 ∧ byteP b 9 = byteP f 9 ∧ byteP b 8 = part ∧ sizedP b part = true)
set_option maxHeartbeats 3200000 in
theorem scont_any (w : World) {b f : List UInt8} (h : b.length = 64) (hf : f.length = 64) {part : Nat} (hp : part ≤ 1000000) : Calls Try.prog 116 #[.agg (bts b).toArray, .agg (bts f).toArray, .int .i64 (part : Int)] w fun r w' => r = .returned (.bool (contP b f part)) ∧ Mods Nil w w' := by
  obtain ⟨W, hW⟩ : ∃ W, (w.alloc (.cells (bts b).toArray 124)).alloc (.cells (bts f).toArray 124) = W := ⟨_, rfl⟩
  have HM : Hid (Mods Nil w W) := by rw [← hW]; exact ((Mods.refl Nil w).alloc _).alloc _
  have R1 : Hid (∀ V, Mods Nil W V → V.rangeAt w.heap.size 0 (bts b)) := by subst hW; exact Lib.hid (fun V hm => sb_range (((Mods.refl Nil _).alloc _).trans hm))
  have R2 : Hid (∀ V, Mods Nil W V → V.rangeAt (w.heap.size + 1) 0 (bts f)) := by
    subst hW
    exact Lib.hid (fun V hm => by have := sb_range hm; rwa [World.size_alloc] at this)
  have c8 : ∀ V, Mods Nil W V → V.cell? ⟨w.heap.size, 8, none⟩ = some (.int .u8 (byteP b 8 : Nat)) := by subst hW; exact fun V hm => sb_cell h (((Mods.refl Nil _).alloc _).trans hm) 8 (by omega)
  have hinfo := Lib.hid (infoSB3 h)
  have hinff := Lib.hid (infoSB3 hf)
  have M1 := Lib.hid (gq_of (W := W) (fun V => smany_any V h))
  have M2 := Lib.hid (gq_of (W := W) (fun V => smany_any V hf))
  have A0 := Lib.hid (gq_of (W := W) (fun V => snumber0 V h))
  have A4 := Lib.hid (gq_of (W := W) (fun V => snumber4 V h))
  have B0 := Lib.hid (gq_of (W := W) (fun V => snumber0 V hf))
  have B4 := Lib.hid (gq_of (W := W) (fun V => snumber4 V hf))
  have HZ := Lib.hid (gq_of (W := W) (fun V => ssized_any V h part hp))
  have e0 : contP b f part = decide (numP b 0 = numP f 0 ∧ numP b 4 = numP f 4 ∧ byteP b 9 = byteP f 9 ∧ byteP b 8 = part ∧ sizedP b part = true) := rfl
  rw [e0]
  have b8 := byteP_lt b 8
  clear h hf e0
  obtain ⟨x1, hx1⟩ : ∃ x, byteP b 9 = x := ⟨_, rfl⟩
  obtain ⟨x2, hx2⟩ : ∃ x, byteP f 9 = x := ⟨_, rfl⟩
  obtain ⟨y1, hy1⟩ : ∃ y, numP b 0 = y := ⟨_, rfl⟩
  obtain ⟨y2, hy2⟩ : ∃ y, numP f 0 = y := ⟨_, rfl⟩
  obtain ⟨z1, hz1⟩ : ∃ z, numP b 4 = z := ⟨_, rfl⟩
  obtain ⟨z2, hz2⟩ : ∃ z, numP f 4 = z := ⟨_, rfl⟩
  obtain ⟨q, hq⟩ : ∃ q, byteP b 8 = q := ⟨_, rfl⟩
  obtain ⟨r, hr⟩ : ∃ r, sizedP b part = r := ⟨_, rfl⟩
  rw [hx1] at M1
  rw [hx2] at M2
  rw [hy1] at A0
  rw [hy2] at B0
  rw [hz1] at A4
  rw [hz2] at B4
  rw [hq] at c8 b8
  rw [hr] at HZ
  rw [hx1, hx2, hy1, hy2, hz1, hz2, hq, hr]
  have hwq : IntKind.i64.wrap (q : Int) = (q : Int) := by rw [IntKind.wrap_i64]; omega
  clear hx1 hx2 hy1 hy2 hz1 hz2 hq hr
  by_cases h1 : y1 = y2
  · subst h1
    by_cases h2 : z1 = z2
    · subst h2
      by_cases h3 : x1 = x2
      · subst h3
        by_cases h4 : q = part
        · subst h4
          cases r with
          | true =>
            go_enter Try.func116, Try.ntmps116
            go_wp2_with fail
            refine gq_region (by kernel_rfl) (by kernel_rfl) ?_
            repeat (first
              | go_big_quiet_skip
              | (go_big_quiet_want; first
                  | (refine gq_load_row 124 _ rfl _ _ rfl (bts b) _ R1.out Try.underlying124 rfl hinfo.out ?_; go_big_quiet_on)
                  | (refine gq_load_row 124 _ rfl _ _ rfl (bts f) _ R2.out Try.underlying124 rfl hinff.out ?_; go_big_quiet_on)
                  | (refine gq_call A0.out ?_ ?_; (focus (intro V; go_simp; done)); go_big_quiet_on)
                  | (refine gq_call B0.out ?_ ?_; (focus (intro V; go_simp; done)); go_big_quiet_on)
                  | (refine gq_call A4.out ?_ ?_; (focus (intro V; go_simp; done)); go_big_quiet_on)
                  | (refine gq_call B4.out ?_ ?_; (focus (intro V; go_simp; done)); go_big_quiet_on)
                  | (refine gq_call M1.out ?_ ?_; (focus (intro V; go_simp; done)); go_big_quiet_on)
                  | (refine gq_call M2.out ?_ ?_; (focus (intro V; go_simp; done)); go_big_quiet_on)
                  | (refine gq_call HZ.out ?_ ?_; (focus (intro V; go_simp; done)); go_big_quiet_on)
                  | (refine gq_op (v := ?_) ?_ ?_; rotate_left; (focus (intro V hV; go_simp; try with_reducible rfl)); go_big_quiet_on))
                simp only [Act.put, List.setIfInBounds_toArray, List.set_cons_zero, List.set_cons_succ])
            refine wpQuiet_nil ?_
            intro V hV
            go_wp2_with fail
            go_ret
            refine ⟨by simp, HM.out.trans hV⟩
          | false =>
            go_enter Try.func116, Try.ntmps116
            go_wp2_with fail
            refine gq_region (by kernel_rfl) (by kernel_rfl) ?_
            repeat (first
              | go_big_quiet_skip
              | (go_big_quiet_want; first
                  | (refine gq_load_row 124 _ rfl _ _ rfl (bts b) _ R1.out Try.underlying124 rfl hinfo.out ?_; go_big_quiet_on)
                  | (refine gq_load_row 124 _ rfl _ _ rfl (bts f) _ R2.out Try.underlying124 rfl hinff.out ?_; go_big_quiet_on)
                  | (refine gq_call A0.out ?_ ?_; (focus (intro V; go_simp; done)); go_big_quiet_on)
                  | (refine gq_call B0.out ?_ ?_; (focus (intro V; go_simp; done)); go_big_quiet_on)
                  | (refine gq_call A4.out ?_ ?_; (focus (intro V; go_simp; done)); go_big_quiet_on)
                  | (refine gq_call B4.out ?_ ?_; (focus (intro V; go_simp; done)); go_big_quiet_on)
                  | (refine gq_call M1.out ?_ ?_; (focus (intro V; go_simp; done)); go_big_quiet_on)
                  | (refine gq_call M2.out ?_ ?_; (focus (intro V; go_simp; done)); go_big_quiet_on)
                  | (refine gq_call HZ.out ?_ ?_; (focus (intro V; go_simp; done)); go_big_quiet_on)
                  | (refine gq_op (v := ?_) ?_ ?_; rotate_left; (focus (intro V hV; go_simp; try with_reducible rfl)); go_big_quiet_on))
                simp only [Act.put, List.setIfInBounds_toArray, List.set_cons_zero, List.set_cons_succ])
            refine wpQuiet_nil ?_
            intro V hV
            go_wp2_with fail
            go_ret
            refine ⟨by simp, HM.out.trans hV⟩
        · have h4I : ((q : Int) == (part : Int)) = false := by simp; omega
          go_enter Try.func116, Try.ntmps116
          go_wp2_with fail
          refine gq_region (by kernel_rfl) (by kernel_rfl) ?_
          repeat (first
            | go_big_quiet_skip
            | (go_big_quiet_want; first
                | (refine gq_load_row 124 _ rfl _ _ rfl (bts b) _ R1.out Try.underlying124 rfl hinfo.out ?_; go_big_quiet_on)
                | (refine gq_load_row 124 _ rfl _ _ rfl (bts f) _ R2.out Try.underlying124 rfl hinff.out ?_; go_big_quiet_on)
                | (refine gq_call A0.out ?_ ?_; (focus (intro V; go_simp; done)); go_big_quiet_on)
                | (refine gq_call B0.out ?_ ?_; (focus (intro V; go_simp; done)); go_big_quiet_on)
                | (refine gq_call A4.out ?_ ?_; (focus (intro V; go_simp; done)); go_big_quiet_on)
                | (refine gq_call B4.out ?_ ?_; (focus (intro V; go_simp; done)); go_big_quiet_on)
                | (refine gq_call M1.out ?_ ?_; (focus (intro V; go_simp; done)); go_big_quiet_on)
                | (refine gq_call M2.out ?_ ?_; (focus (intro V; go_simp; done)); go_big_quiet_on)
                | (refine gq_call HZ.out ?_ ?_; (focus (intro V; go_simp; done)); go_big_quiet_on)
                | (refine gq_op (v := ?_) ?_ ?_; rotate_left; (focus (intro V hV; go_simp; try with_reducible rfl)); go_big_quiet_on))
              simp only [Act.put, List.setIfInBounds_toArray, List.set_cons_zero, List.set_cons_succ])
          refine wpQuiet_nil ?_
          intro V hV
          go_wp2_with fail
          go_ret
          refine ⟨by simp [h4], HM.out.trans hV⟩
      · have h3I : ((x1 : Int) == (x2 : Int)) = false := by simp; omega
        go_enter Try.func116, Try.ntmps116
        go_wp2_with fail
        refine gq_region (by kernel_rfl) (by kernel_rfl) ?_
        repeat (first
          | go_big_quiet_skip
          | (go_big_quiet_want; first
              | (refine gq_load_row 124 _ rfl _ _ rfl (bts b) _ R1.out Try.underlying124 rfl hinfo.out ?_; go_big_quiet_on)
              | (refine gq_load_row 124 _ rfl _ _ rfl (bts f) _ R2.out Try.underlying124 rfl hinff.out ?_; go_big_quiet_on)
              | (refine gq_call A0.out ?_ ?_; (focus (intro V; go_simp; done)); go_big_quiet_on)
              | (refine gq_call B0.out ?_ ?_; (focus (intro V; go_simp; done)); go_big_quiet_on)
              | (refine gq_call A4.out ?_ ?_; (focus (intro V; go_simp; done)); go_big_quiet_on)
              | (refine gq_call B4.out ?_ ?_; (focus (intro V; go_simp; done)); go_big_quiet_on)
              | (refine gq_call M1.out ?_ ?_; (focus (intro V; go_simp; done)); go_big_quiet_on)
              | (refine gq_call M2.out ?_ ?_; (focus (intro V; go_simp; done)); go_big_quiet_on)
              | (refine gq_call HZ.out ?_ ?_; (focus (intro V; go_simp; done)); go_big_quiet_on)
              | (refine gq_op (v := ?_) ?_ ?_; rotate_left; (focus (intro V hV; go_simp; try with_reducible rfl)); go_big_quiet_on))
            simp only [Act.put, List.setIfInBounds_toArray, List.set_cons_zero, List.set_cons_succ])
        refine wpQuiet_nil ?_
        intro V hV
        go_wp2_with fail
        go_ret
        refine ⟨by simp [h3], HM.out.trans hV⟩
    · have h2I : ((z1 : Int) == (z2 : Int)) = false := by simp; omega
      go_enter Try.func116, Try.ntmps116
      go_wp2_with fail
      refine gq_region (by kernel_rfl) (by kernel_rfl) ?_
      repeat (first
        | go_big_quiet_skip
        | (go_big_quiet_want; first
            | (refine gq_load_row 124 _ rfl _ _ rfl (bts b) _ R1.out Try.underlying124 rfl hinfo.out ?_; go_big_quiet_on)
            | (refine gq_load_row 124 _ rfl _ _ rfl (bts f) _ R2.out Try.underlying124 rfl hinff.out ?_; go_big_quiet_on)
            | (refine gq_call A0.out ?_ ?_; (focus (intro V; go_simp; done)); go_big_quiet_on)
            | (refine gq_call B0.out ?_ ?_; (focus (intro V; go_simp; done)); go_big_quiet_on)
            | (refine gq_call A4.out ?_ ?_; (focus (intro V; go_simp; done)); go_big_quiet_on)
            | (refine gq_call B4.out ?_ ?_; (focus (intro V; go_simp; done)); go_big_quiet_on)
            | (refine gq_call M1.out ?_ ?_; (focus (intro V; go_simp; done)); go_big_quiet_on)
            | (refine gq_call M2.out ?_ ?_; (focus (intro V; go_simp; done)); go_big_quiet_on)
            | (refine gq_call HZ.out ?_ ?_; (focus (intro V; go_simp; done)); go_big_quiet_on)
            | (refine gq_op (v := ?_) ?_ ?_; rotate_left; (focus (intro V hV; go_simp; try with_reducible rfl)); go_big_quiet_on))
          simp only [Act.put, List.setIfInBounds_toArray, List.set_cons_zero, List.set_cons_succ])
      refine wpQuiet_nil ?_
      intro V hV
      go_wp2_with fail
      go_ret
      refine ⟨by simp [h2], HM.out.trans hV⟩
  · have h1I : ((y1 : Int) == (y2 : Int)) = false := by simp; omega
    go_enter Try.func116, Try.ntmps116
    go_wp2_with fail
    refine gq_region (by kernel_rfl) (by kernel_rfl) ?_
    repeat (first
      | go_big_quiet_skip
      | (go_big_quiet_want; first
          | (refine gq_load_row 124 _ rfl _ _ rfl (bts b) _ R1.out Try.underlying124 rfl hinfo.out ?_; go_big_quiet_on)
          | (refine gq_load_row 124 _ rfl _ _ rfl (bts f) _ R2.out Try.underlying124 rfl hinff.out ?_; go_big_quiet_on)
          | (refine gq_call A0.out ?_ ?_; (focus (intro V; go_simp; done)); go_big_quiet_on)
          | (refine gq_call B0.out ?_ ?_; (focus (intro V; go_simp; done)); go_big_quiet_on)
          | (refine gq_call A4.out ?_ ?_; (focus (intro V; go_simp; done)); go_big_quiet_on)
          | (refine gq_call B4.out ?_ ?_; (focus (intro V; go_simp; done)); go_big_quiet_on)
          | (refine gq_call M1.out ?_ ?_; (focus (intro V; go_simp; done)); go_big_quiet_on)
          | (refine gq_call M2.out ?_ ?_; (focus (intro V; go_simp; done)); go_big_quiet_on)
          | (refine gq_call HZ.out ?_ ?_; (focus (intro V; go_simp; done)); go_big_quiet_on)
          | (refine gq_op (v := ?_) ?_ ?_; rotate_left; (focus (intro V hV; go_simp; try with_reducible rfl)); go_big_quiet_on))
        simp only [Act.put, List.setIfInBounds_toArray, List.set_cons_zero, List.set_cons_succ])
    refine wpQuiet_nil ?_
    intro V hV
    go_wp2_with fail
    go_ret
    refine ⟨by simp [h1], HM.out.trans hV⟩
end Go.Proofs.Ytdllgmhipenidaa
end

section
/- Package segment: put, Need. -/
namespace Go.Proofs.Ytdllgmhipenidaa
set_option maxRecDepth 100000
open Go.RowKit
set_option linter.unusedVariables false

def set4 (l : List UInt8) (k x : Nat) : List UInt8 := (((l.set k (UInt8.ofNat (x / 16777216))).set (k + 1) (UInt8.ofNat (x / 65536))).set (k + 2) (UInt8.ofNat (x / 256))).set (k + 3) (UInt8.ofNat x)
theorem set4_length (l : List UInt8) (k x : Nat) : (set4 l k x).length = l.length := by simp [set4]
theorem Blk.bset {w : World} {g : Nat} {t : TypeId} {l : List UInt8} (h : Blk w g t (bts l).toArray) (i : Nat) (u : UInt8) : Blk (w.setCell ⟨g, i, none⟩ (.int .u8 (u.toNat : Int))) g t (bts (l.set i u)).toArray := by
  have := h.set_ i (.int .u8 (u.toNat : Int))
  have e : (bts l).toArray.setIfInBounds i (.int .u8 (u.toNat : Int)) = (bts (l.set i u)).toArray := by
    simp [bts, List.map_set]
  rwa [e] at this
set_option maxHeartbeats 3200000 in
theorem sput_any {w : World} {g : Nat} {l : List UInt8} (hB : Blk w g 124 (bts l).toArray) (h : l.length = 64) {k x : Nat} (hk : k ≤ 60) (hx : x < 4294967296) :
    Calls Try.prog 119 #[.pointer (some ⟨g, 0, none⟩), .int .i64 (k : Int), .int .u32 (x : Int)] w fun e w' => e = .returned (.tuple #[]) ∧ Blk w' g 124 (bts (set4 l k x)).toArray ∧ Mods (fun i => i = g) w w' := by
  have hc : ∀ i, i < 64 → (w.cell? ⟨g, i, none⟩).isSome = true := fun i hi => by
    rw [hB.cell i]
    simp [bts_length, h, hi]
  have b1 : IntKind.u8.wrap ((x : Int) / 16777216) = ((UInt8.ofNat (x / 16777216)).toNat : Int) := by rw [IntKind.wrap_u8']; simp
  have b2 : IntKind.u8.wrap ((x : Int) / 65536) = ((UInt8.ofNat (x / 65536)).toNat : Int) := by rw [IntKind.wrap_u8']; simp
  have b3 : IntKind.u8.wrap ((x : Int) / 256) = ((UInt8.ofNat (x / 256)).toNat : Int) := by rw [IntKind.wrap_u8']; simp
  have b4 : IntKind.u8.wrap (x : Int) = ((UInt8.ofNat x).toNat : Int) := by rw [IntKind.wrap_u8']; simp
  obtain ⟨u1, hu1⟩ : ∃ u, UInt8.ofNat (x / 16777216) = u := ⟨_, rfl⟩
  obtain ⟨u2, hu2⟩ : ∃ u, UInt8.ofNat (x / 65536) = u := ⟨_, rfl⟩
  obtain ⟨u3, hu3⟩ : ∃ u, UInt8.ofNat (x / 256) = u := ⟨_, rfl⟩
  obtain ⟨u4, hu4⟩ : ∃ u, UInt8.ofNat x = u := ⟨_, rfl⟩
  have HD : Hid (∀ W : World, Mods (fun i => i = g) W ((((W.setCell ⟨g, k, none⟩ (.int .u8 (u1.toNat : Int))).setCell ⟨g, k + 1, none⟩ (.int .u8 (u2.toNat : Int))).setCell ⟨g, k + 2, none⟩ (.int .u8 (u3.toNat : Int))).setCell ⟨g, k + 3, none⟩ (.int .u8 (u4.toNat : Int)))) :=
    Lib.hid (fun W => Mods.setCell (S := fun i => i = g) (p := ⟨g, k + 3, none⟩) (Mods.setCell (S := fun i => i = g) (p := ⟨g, k + 2, none⟩) (Mods.setCell (S := fun i => i = g) (p := ⟨g, k + 1, none⟩) (Mods.setCell (S := fun i => i = g) (p := ⟨g, k, none⟩) (Mods.refl _ _) (fun _ => rfl) _) (fun _ => rfl) _) (fun _ => rfl) _) (fun _ => rfl) _)
  rw [hu1] at b1
  rw [hu2] at b2
  rw [hu3] at b3
  rw [hu4] at b4
  obtain ⟨W0, hW0⟩ : ∃ W, w.drew = W := ⟨_, rfl⟩
  have B0 : Blk W0 g 124 (bts l).toArray := by rw [← hW0]; exact hB
  obtain ⟨W1, hW1⟩ : ∃ W, W0.setCell ⟨g, k, none⟩ (.int .u8 (u1.toNat : Int)) = W := ⟨_, rfl⟩
  obtain ⟨W2, hW2⟩ : ∃ W, W1.setCell ⟨g, k + 1, none⟩ (.int .u8 (u2.toNat : Int)) = W := ⟨_, rfl⟩
  obtain ⟨W3, hW3⟩ : ∃ W, W2.setCell ⟨g, k + 2, none⟩ (.int .u8 (u3.toNat : Int)) = W := ⟨_, rfl⟩
  obtain ⟨W4, hW4⟩ : ∃ W, W3.setCell ⟨g, k + 3, none⟩ (.int .u8 (u4.toNat : Int)) = W := ⟨_, rfl⟩
  have B1 := B0.bset k u1
  rw [hW1] at B1
  have B2 := B1.bset (k + 1) u2
  rw [hW2] at B2
  have B3 := B2.bset (k + 2) u3
  rw [hW3] at B3
  have B4 := B3.bset (k + 3) u4
  rw [hW4] at B4
  have M4 : Mods (fun i => i = g) w W4 := by
    have := HD.out W0
    rw [hW1, hW2, hW3, hW4, ← hW0] at this
    exact ⟨this.os, this.tape, this.output, this.size, this.block⟩
  have HE : Hid (Blk W4 g 124 (bts (set4 l k x)).toArray ∧ Mods (fun i => i = g) w W4) := by
    unfold set4
    rw [hu1, hu2, hu3, hu4]
    exact Lib.hid ⟨B4, M4⟩
  have c0 := B0.cell k
  have c1 := B1.cell (k + 1)
  have c2 := B2.cell (k + 2)
  have c3 := B3.cell (k + 3)
  have f0 := B0.frozen k
  have f1 := B1.frozen (k + 1)
  have f2 := B2.frozen (k + 2)
  have f3 := B3.frozen (k + 3)
  rw [Array.getElem?_eq_getElem (by simp; omega)] at c0 c1 c2 c3
  generalize (bts l).toArray[k]'_ = v0 at c0
  generalize (bts _).toArray[k + 1]'_ = v1 at c1
  generalize (bts _).toArray[k + 2]'_ = v2 at c2
  generalize (bts _).toArray[k + 3]'_ = v3 at c3
  clear M4 B0 B1 B2 B3 B4 HD
  have k1 : IntKind.i64.wrap ((k : Int) + 1) = (k : Int) + 1 := by rw [IntKind.wrap_i64]; omega
  have k2 : IntKind.i64.wrap ((k : Int) + 2) = (k : Int) + 2 := by rw [IntKind.wrap_i64]; omega
  have k3 : IntKind.i64.wrap ((k : Int) + 3) = (k : Int) + 3 := by rw [IntKind.wrap_i64]; omega
  clear hc hB h hu1 hu2 hu3 hu4
  go_enter Try.func119, Try.ntmps119
  go_region_with (fail)
  all_goals
    go_wp2_with fail
    exact bodyPost_end (results_none rfl _ _ _) rfl ⟨rfl, HE.out⟩
theorem sneed_any (w : World) (n : Nat) (hn : n ≤ 1000000) : Calls Try.prog 62 #[.int .i64 (n : Int)] w fun e w' => e = .returned (.int .i64 (needP n : Nat)) ∧ w = w' := by
  obtain ⟨q, hq⟩ : ∃ q, needP n = q := ⟨_, rfl⟩
  rw [hq]
  by_cases h0 : n < 1
  · have h0I : (n : Int) < 1 := by omega
    obtain rfl : q = 1 := by unfold needP at hq; split at hq <;> omega
    clear hq
    go_enter Try.func62, Try.ntmps62
    go_wp2_with fail
    go_ret
    exact ⟨rfl, rfl⟩
  · have h0I : (1 : Int) ≤ (n : Int) := by omega
    have w1 : IntKind.i64.wrap ((n : Int) - 1) = (n : Int) - 1 := by rw [IntKind.wrap_i64]; omega
    have w2 : ((n : Int) - 1).tdiv 45 = ((q - 1 : Nat) : Int) := by
      rw [Int.tdiv_eq_ediv_of_nonneg (by omega)]
      unfold needP at hq
      split at hq <;> omega
    have hq1 : 1 ≤ q := by rw [← hq]; exact needP_pos n
    have w3 : IntKind.i64.wrap ((q - 1 : Nat) : Int) = ((q - 1 : Nat) : Int) := by rw [IntKind.wrap_i64]; unfold needP at hq; split at hq <;> omega
    have w4 : IntKind.i64.wrap (((q - 1 : Nat) : Int) + 1) = (q : Int) := by rw [IntKind.wrap_i64]; unfold needP at hq; split at hq <;> omega
    clear hq h0
    generalize ((q - 1 : Nat) : Int) = z at *
    go_enter Try.func62, Try.ntmps62
    go_wp2_with fail
    go_ret
    exact ⟨rfl, rfl⟩
end Go.Proofs.Ytdllgmhipenidaa
end
