/- Package segment: put, Need. -/
import Derived.Test.YtgebcpfgihcoiaaSgm1
import Derived.Test.YtgebcpfgihcoiaaGQ
import Derived.StillTailTactics
import Derived.BigRegion
namespace Go.Proofs.Ytgebcpfgihcoiaa
set_option maxRecDepth 100000
open Go.RowKit
set_option linter.unusedVariables false

def set4 (l : List UInt8) (k x : Nat) : List UInt8 := (((l.set k (UInt8.ofNat (x / 16777216))).set (k + 1) (UInt8.ofNat (x / 65536))).set (k + 2) (UInt8.ofNat (x / 256))).set (k + 3) (UInt8.ofNat x)
theorem set4_length (l : List UInt8) (k x : Nat) : (set4 l k x).length = l.length := by simp [set4]
theorem Blk.bset {w : World} {g : Nat} {t : TypeId} {l : List UInt8} (h : Blk w g t (bts l).toArray) (i : Nat) (u : UInt8) : Blk (w.setCell ⟨g, i, none⟩ (.int .u8 (u.toNat : Int))) g t (bts (l.set i u)).toArray := by
  have := h.set_ i (.int .u8 (u.toNat : Int))
  have e : (bts l).toArray.setIfInBounds i (.int .u8 (u.toNat : Int)) = (bts (l.set i u)).toArray := by
    simp [bts, List.map_set]
  rwa [e] at this
set_option maxHeartbeats 3200000 in
theorem sput_any {w : World} {g : Nat} {l : List UInt8} (hB : Blk w g 94 (bts l).toArray) (h : l.length = 64) {k x : Nat} (hk : k ≤ 60) (hx : x < 4294967296) :
    Calls Try.prog 68 #[.pointer (some ⟨g, 0, none⟩), .int .i64 (k : Int), .int .u32 (x : Int)] w fun e w' => e = .returned (.tuple #[]) ∧ Blk w' g 94 (bts (set4 l k x)).toArray ∧ Mods (fun i => i = g) w w' := by
  have hc : ∀ i, i < 64 → (w.cell? ⟨g, i, none⟩).isSome = true := fun i hi => by
    rw [hB.cell i]
    simp [bts_length, h, hi]
  have b1 : IntKind.u8.wrap ((x : Int) / 16777216) = ((UInt8.ofNat (x / 16777216)).toNat : Int) := by rw [IntKind.wrap_u8']; simp
  have b2 : IntKind.u8.wrap ((x : Int) / 65536) = ((UInt8.ofNat (x / 65536)).toNat : Int) := by rw [IntKind.wrap_u8']; simp
  have b3 : IntKind.u8.wrap ((x : Int) / 256) = ((UInt8.ofNat (x / 256)).toNat : Int) := by rw [IntKind.wrap_u8']; simp
  have b4 : IntKind.u8.wrap (x : Int) = ((UInt8.ofNat x).toNat : Int) := by rw [IntKind.wrap_u8']; simp
  obtain ⟨u1, hu1⟩ : ∃ u, UInt8.ofNat (x / 16777216) = u := ⟨_, rfl⟩
  obtain ⟨u2, hu2⟩ : ∃ u, UInt8.ofNat (x / 65536) = u := ⟨_, rfl⟩
  obtain ⟨u3, hu3⟩ : ∃ u, UInt8.ofNat (x / 256) = u := ⟨_, rfl⟩
  obtain ⟨u4, hu4⟩ : ∃ u, UInt8.ofNat x = u := ⟨_, rfl⟩
  have HD : Hid (∀ W : World, Mods (fun i => i = g) W ((((W.setCell ⟨g, k, none⟩ (.int .u8 (u1.toNat : Int))).setCell ⟨g, k + 1, none⟩ (.int .u8 (u2.toNat : Int))).setCell ⟨g, k + 2, none⟩ (.int .u8 (u3.toNat : Int))).setCell ⟨g, k + 3, none⟩ (.int .u8 (u4.toNat : Int)))) :=
    Lib.hid (fun W => Mods.setCell (S := fun i => i = g) (p := ⟨g, k + 3, none⟩) (Mods.setCell (S := fun i => i = g) (p := ⟨g, k + 2, none⟩) (Mods.setCell (S := fun i => i = g) (p := ⟨g, k + 1, none⟩) (Mods.setCell (S := fun i => i = g) (p := ⟨g, k, none⟩) (Mods.refl _ _) (fun _ => rfl) _) (fun _ => rfl) _) (fun _ => rfl) _) (fun _ => rfl) _)
  rw [hu1] at b1
  rw [hu2] at b2
  rw [hu3] at b3
  rw [hu4] at b4
  obtain ⟨W0, hW0⟩ : ∃ W, w.drew = W := ⟨_, rfl⟩
  have B0 : Blk W0 g 94 (bts l).toArray := by rw [← hW0]; exact hB
  obtain ⟨W1, hW1⟩ : ∃ W, W0.setCell ⟨g, k, none⟩ (.int .u8 (u1.toNat : Int)) = W := ⟨_, rfl⟩
  obtain ⟨W2, hW2⟩ : ∃ W, W1.setCell ⟨g, k + 1, none⟩ (.int .u8 (u2.toNat : Int)) = W := ⟨_, rfl⟩
  obtain ⟨W3, hW3⟩ : ∃ W, W2.setCell ⟨g, k + 2, none⟩ (.int .u8 (u3.toNat : Int)) = W := ⟨_, rfl⟩
  obtain ⟨W4, hW4⟩ : ∃ W, W3.setCell ⟨g, k + 3, none⟩ (.int .u8 (u4.toNat : Int)) = W := ⟨_, rfl⟩
  have B1 := B0.bset k u1
  rw [hW1] at B1
  have B2 := B1.bset (k + 1) u2
  rw [hW2] at B2
  have B3 := B2.bset (k + 2) u3
  rw [hW3] at B3
  have B4 := B3.bset (k + 3) u4
  rw [hW4] at B4
  have M4 : Mods (fun i => i = g) w W4 := by
    have := HD.out W0
    rw [hW1, hW2, hW3, hW4, ← hW0] at this
    exact ⟨this.os, this.tape, this.output, this.size, this.block⟩
  have HE : Hid (Blk W4 g 94 (bts (set4 l k x)).toArray ∧ Mods (fun i => i = g) w W4) := by
    unfold set4
    rw [hu1, hu2, hu3, hu4]
    exact Lib.hid ⟨B4, M4⟩
  have c0 := B0.cell k
  have c1 := B1.cell (k + 1)
  have c2 := B2.cell (k + 2)
  have c3 := B3.cell (k + 3)
  have f0 := B0.frozen k
  have f1 := B1.frozen (k + 1)
  have f2 := B2.frozen (k + 2)
  have f3 := B3.frozen (k + 3)
  rw [Array.getElem?_eq_getElem (by simp; omega)] at c0 c1 c2 c3
  generalize (bts l).toArray[k]'_ = v0 at c0
  generalize (bts _).toArray[k + 1]'_ = v1 at c1
  generalize (bts _).toArray[k + 2]'_ = v2 at c2
  generalize (bts _).toArray[k + 3]'_ = v3 at c3
  clear M4 B0 B1 B2 B3 B4 HD
  have k1 : IntKind.i64.wrap ((k : Int) + 1) = (k : Int) + 1 := by rw [IntKind.wrap_i64]; omega
  have k2 : IntKind.i64.wrap ((k : Int) + 2) = (k : Int) + 2 := by rw [IntKind.wrap_i64]; omega
  have k3 : IntKind.i64.wrap ((k : Int) + 3) = (k : Int) + 3 := by rw [IntKind.wrap_i64]; omega
  clear hc hB h hu1 hu2 hu3 hu4
  go_enter Try.func68, Try.ntmps68
  go_region_with (fail)
  all_goals
    go_wp2_with fail
    exact bodyPost_end (results_none rfl _ _ _) rfl ⟨rfl, HE.out⟩
theorem sneed_any (w : World) (n : Nat) (hn : n ≤ 1000000) : Calls Try.prog 34 #[.int .i64 (n : Int)] w fun e w' => e = .returned (.int .i64 (needP n : Nat)) ∧ w = w' := by
  obtain ⟨q, hq⟩ : ∃ q, needP n = q := ⟨_, rfl⟩
  rw [hq]
  by_cases h0 : n < 1
  · have h0I : (n : Int) < 1 := by omega
    obtain rfl : q = 1 := by unfold needP at hq; split at hq <;> omega
    clear hq
    go_enter Try.func34, Try.ntmps34
    go_wp2_with fail
    go_ret
    exact ⟨rfl, rfl⟩
  · have h0I : (1 : Int) ≤ (n : Int) := by omega
    have w1 : IntKind.i64.wrap ((n : Int) - 1) = (n : Int) - 1 := by rw [IntKind.wrap_i64]; omega
    have w2 : ((n : Int) - 1).tdiv 45 = ((q - 1 : Nat) : Int) := by
      rw [Int.tdiv_eq_ediv_of_nonneg (by omega)]
      unfold needP at hq
      split at hq <;> omega
    have hq1 : 1 ≤ q := by rw [← hq]; exact needP_pos n
    have w3 : IntKind.i64.wrap ((q - 1 : Nat) : Int) = ((q - 1 : Nat) : Int) := by rw [IntKind.wrap_i64]; unfold needP at hq; split at hq <;> omega
    have w4 : IntKind.i64.wrap (((q - 1 : Nat) : Int) + 1) = (q : Int) := by rw [IntKind.wrap_i64]; unfold needP at hq; split at hq <;> omega
    clear hq h0
    generalize ((q - 1 : Nat) : Int) = z at *
    go_enter Try.func34, Try.ntmps34
    go_wp2_with fail
    go_ret
    exact ⟨rfl, rfl⟩
end Go.Proofs.Ytgebcpfgihcoiaa
