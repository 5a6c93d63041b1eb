/- Package segment: a block's numbers. -/
import Derived.Test.YtgebcpfgihcoiaaDisk1
import Derived.Test.YtgebcpfgihcoiaaSeg0
import Derived.Test.YtgebcpfgihcoiaaIMap
import Derived.Deep.RegionHeld
import Derived.Deep.QuietTactic
import Derived.BigQuiet
import Derived.Laws.BitsAllLaws
import Derived.Test.YtgebcpfgihcoiaaSumsM
namespace Go.Proofs.Ytgebcpfgihcoiaa
set_option maxRecDepth 100000
open Go.RowKit
set_option linter.unusedVariables false

theorem infoSB : (Try.prog.info? 94).map (fun i => (i.zero, i.size, i.bytes)) = some (some (.agg (Array.replicate 64 (.int .u8 0))), 64, 64) := by kernel_rfl
theorem infoSB2 : (Try.prog.info? 94).map (·.size) = some 64 := by kernel_rfl
/-- A block as a value. -/
def aggB (b : List UInt8) : Value := .agg (bts b).toArray
theorem infoSB3 {b : List UInt8} (h : b.length = 64) : (Try.prog.info? 94).map (·.size) = some (bts b).length := by rw [bts_length, h]; exact infoSB2
theorem sb_cell {w w' : World} {b : List UInt8} (h : b.length = 64) (hm : Mods Nil (w.alloc (.cells (bts b).toArray 94)) w') (i : Nat) (hi : i < 64) : w'.cell? ⟨w.heap.size, i, none⟩ = some (.int .u8 (byteP b i : Nat)) := by
  have hB := (Blk.new w 94 (bts b).toArray).mods hm (fun h => h)
  rw [hB.cell i]
  have := bts_get b i (by omega)
  simp only [List.getElem?_toArray]
  rw [this]
  unfold byteP
  simp [List.getD_eq_getElem?_getD, show i < b.length by omega]
theorem byteP_lt (b : List UInt8) (i : Nat) : byteP b i < 256 := (b.getD i 0).toNat_lt
theorem numP_lt (b : List UInt8) (i : Nat) : numP b i < 4294967296 := by
  have h0 := byteP_lt b i
  have h1 := byteP_lt b (i + 1)
  have h2 := byteP_lt b (i + 2)
  have h3 := byteP_lt b (i + 3)
  unfold numP
  omega

theorem or_u32 (a n b : Nat) (hb : b < 2 ^ n) (h : a * 2 ^ n + b < 4294967296) : bits .or .u32 ((a * 2 ^ n : Nat) : Int) (b : Int) = ((a * 2 ^ n + b : Nat) : Int) := by
  have e := Nat.two_pow_add_eq_or_of_lt hb a
  rw [Nat.mul_comm] at e
  rw [u32_or_nat _ _ (by omega) (by omega), e]
theorem snumber_any (w : World) {b : List UInt8} (h : b.length = 64) {k : Nat} (hk : k ≤ 60) : Calls Try.prog 61 #[aggB b, .int .i64 (k : Int)] w fun e w' => e = .returned (.int .u32 (numP b k : Nat)) ∧ Mods Nil w w' := by
  have c0 := fun w' hm => sb_cell (w := w) (w' := w') h hm k (by omega)
  have c1 := fun w' hm => sb_cell (w := w) (w' := w') h hm (k + 1) (by omega)
  have c2 := fun w' hm => sb_cell (w := w) (w' := w') h hm (k + 2) (by omega)
  have c3 := fun w' hm => sb_cell (w := w) (w' := w') h hm (k + 3) (by omega)
  have e : numP b k = byteP b k * 16777216 + byteP b (k + 1) * 65536 + byteP b (k + 2) * 256 + byteP b (k + 3) := rfl
  have b0 := byteP_lt b k
  have b1 := byteP_lt b (k + 1)
  have b2 := byteP_lt b (k + 2)
  have b3 := byteP_lt b (k + 3)
  generalize byteP b k = x0 at *
  generalize byteP b (k + 1) = x1 at *
  generalize byteP b (k + 2) = x2 at *
  generalize byteP b (k + 3) = x3 at *
  generalize numP b k = q at *
  have d0 := c0 _ (Mods.refl Nil _)
  have d1 := c1 _ (Mods.refl Nil _)
  have d2 := c2 _ (Mods.refl Nil _)
  have d3 := c3 _ (Mods.refl Nil _)
  clear c0 c1 c2 c3
  unfold aggB
  obtain ⟨W, hW⟩ : ∃ W, w.alloc (.cells (bts b).toArray 94) = W := ⟨_, rfl⟩
  have HM : Hid (Mods Nil w W) := by rw [← hW]; exact (Mods.refl Nil w).alloc _
  rw [hW] at d0 d1 d2 d3
  have o1 : bits .or .u32 ((x0 : Int) * 16777216) ((x1 : Int) * 65536) = ((x0 * 16777216 + x1 * 65536 : Nat) : Int) := by
    have := or_u32 x0 24 (x1 * 65536) (by omega) (by omega)
    simpa using this
  have o2 : bits .or .u32 ((x0 * 16777216 + x1 * 65536 : Nat) : Int) ((x2 : Int) * 256) = ((x0 * 16777216 + x1 * 65536 + x2 * 256 : Nat) : Int) := by
    have := or_u32 (x0 * 256 + x1) 16 (x2 * 256) (by omega) (by omega)
    rw [show (x0 * 256 + x1) * 2 ^ 16 = x0 * 16777216 + x1 * 65536 by omega] at this
    simpa using this
  have o3 : bits .or .u32 ((x0 * 16777216 + x1 * 65536 + x2 * 256 : Nat) : Int) (x3 : Int) = (q : Int) := by
    have := or_u32 (x0 * 65536 + x1 * 256 + x2) 8 x3 (by omega) (by omega)
    rw [show (x0 * 65536 + x1 * 256 + x2) * 2 ^ 8 = x0 * 16777216 + x1 * 65536 + x2 * 256 by omega] at this
    rw [this, e]
  obtain ⟨z1, hz1⟩ : ∃ z : Int, ((x0 * 16777216 + x1 * 65536 : Nat) : Int) = z := ⟨_, rfl⟩
  obtain ⟨z2, hz2⟩ : ∃ z : Int, ((x0 * 16777216 + x1 * 65536 + x2 * 256 : Nat) : Int) = z := ⟨_, rfl⟩
  rw [hz1] at o1 o2
  rw [hz2] at o2 o3
  clear hz1 hz2
  clear h e
  have k1 : IntKind.i64.wrap ((k : Int) + 1) = (k : Int) + 1 := by rw [IntKind.wrap_i64]; omega
  have k2 : IntKind.i64.wrap ((k : Int) + 2) = (k : Int) + 2 := by rw [IntKind.wrap_i64]; omega
  have k3 : IntKind.i64.wrap ((k : Int) + 3) = (k : Int) + 3 := by rw [IntKind.wrap_i64]; omega
  go_enter Try.func61, Try.ntmps61
  go_wp2_with fail
  go_quiet (fail)
  all_goals
    go_wp2_with fail
    go_ret
    exact ⟨rfl, HM.out.drewN nq⟩
theorem snumber0 (w : World) {b : List UInt8} (h : b.length = 64) : Calls Try.prog 61 #[.agg (bts b).toArray, .int .i64 0] w fun e w' => e = .returned (.int .u32 (numP b 0 : Nat)) ∧ Mods Nil w w' := snumber_any w h (k := 0) (by omega)
theorem snumber4 (w : World) {b : List UInt8} (h : b.length = 64) : Calls Try.prog 61 #[.agg (bts b).toArray, .int .i64 4] w fun e w' => e = .returned (.int .u32 (numP b 4 : Nat)) ∧ Mods Nil w w' := snumber_any w h (k := 4) (by omega)
theorem snumber60 (w : World) {b : List UInt8} (h : b.length = 64) : Calls Try.prog 61 #[.agg (bts b).toArray, .int .i64 60] w fun e w' => e = .returned (.int .u32 (numP b 60 : Nat)) ∧ Mods Nil w w' := snumber_any w h (k := 60) (by omega)
theorem smany_any (w : World) {b : List UInt8} (h : b.length = 64) : Calls Try.prog 64 #[.agg (bts b).toArray] w fun e w' => e = .returned (.int .i64 (byteP b 9 : Nat)) ∧ Mods Nil w w' := by
  have c9 := sb_cell (w := w) h (Mods.refl Nil _) 9 (by omega)
  have hb := byteP_lt b 9
  generalize byteP b 9 = x at *
  have hw : IntKind.i64.wrap (x : Int) = (x : Int) := by rw [IntKind.wrap_i64]; omega
  obtain ⟨W, hW⟩ : ∃ W, w.alloc (.cells (bts b).toArray 94) = W := ⟨_, rfl⟩
  have HM : Hid (Mods Nil w W) := by rw [← hW]; exact (Mods.refl Nil w).alloc _
  rw [hW] at c9
  clear h
  go_enter Try.func64, Try.ntmps64
  go_wp2_with fail
  go_ret
  exact ⟨rfl, HM.out⟩
theorem sb_range {w w' : World} {b : List UInt8} (hm : Mods Nil (w.alloc (.cells (bts b).toArray 94)) w') : w'.rangeAt w.heap.size 0 (bts b) := by
  have hB := (Blk.new w 94 (bts b).toArray).mods hm (fun h => h)
  intro j u hu
  rw [Nat.zero_add, hB.cell j]
  simpa using hu
theorem sdata_any (w : World) {b : List UInt8} (h : b.length = 64) {q : Nat} (hq : byteP b 10 = q) (hq45 : q ≤ 45) : Calls Try.prog 66 #[.agg (bts b).toArray] w fun e w' => ∃ A c, e = .returned (.slice A q c) ∧ (dataP b).length = q ∧ Sl w' A c (bts (dataP b)) ∧ Mods Nil w w' := by
  have c10 := sb_cell (w := w) h (Mods.refl Nil _) 10 (by omega)
  rw [hq] at c10
  have hR := Lib.hid (sb_range (w := w) (b := b) (Mods.refl Nil _))
  have hd : dataP b = (b.drop 11).take q := by unfold dataP; rw [hq]
  have hl : (dataP b).length = q := by rw [hd]; simp; omega
  have hw : IntKind.i64.wrap (q : Int) = (q : Int) := by rw [IntKind.wrap_i64]; omega
  have hw2 : IntKind.i64.wrap (11 + (q : Int)) = 11 + (q : Int) := by rw [IntKind.wrap_i64]; omega
  have hI : (q : Int) ≤ 45 := by omega
  have hI2 : 11 + (q : Int) ≤ 64 := by omega
  have hI3 : (11 : Int) ≤ 11 + (q : Int) := by omega
  have hN : (11 + (q : Int)).toNat = 11 + q := by omega
  have hN2 : 11 + q - 11 = q := by omega
  have HS : Hid (∀ W c', W.rangeAt w.heap.size 0 (bts b) → 53 = c' → Sl W (some ⟨w.heap.size, 11, none⟩) c' (bts (dataP b))) := Lib.hid (fun W c' hr hc => by
    subst hc
    refine ⟨by rw [bts_length]; omega, by unfold maxLen; omega, (fun h => by cases h), .inr ⟨w.heap.size, 11, rfl, fun j u hu => ?_⟩⟩
    have hj : j < q := by have := (List.getElem?_eq_some_iff.1 hu).1; rw [bts_length, hl] at this; exact this
    have hr' := hr (11 + j) u
    rw [Nat.zero_add] at hr'
    refine hr' ?_
    rw [hd, ← bts_take, ← bts_drop, List.getElem?_take, if_pos hj, List.getElem?_drop] at hu
    exact hu)
  have HL := Lib.hid hl
  obtain ⟨W, hW⟩ : ∃ W, w.alloc (.cells (bts b).toArray 94) = W := ⟨_, rfl⟩
  have HM : Hid (Mods Nil w W) := by rw [← hW]; exact (Mods.refl Nil w).alloc _
  rw [hW] at c10 hR
  clear h hq hd hl
  go_enter Try.func66, Try.ntmps66
  go_wp2_with fail
  go_ret
  exact ⟨_, _, rfl, HL.out, HS.out _ _ hR.out (by omega), HM.out⟩
end Go.Proofs.Ytgebcpfgihcoiaa
