/- Package sums: a byte more for each of a row. -/
import Derived.Test.YtncmmiecfkfcgaaSums2
namespace Go.Proofs.Ytncmmiecfkfcgaa
open Go.RowKit

theorem xor_and_step (x c : Nat) (hx : x < 4294967296) (hc : c < 4294967296) : ∃ y, y < 4294967296 ∧ y = x ^^^ c ∧ bits .xor .u32 (x : Int) (c : Int) = (y : Int) :=
  ⟨x ^^^ c, Nat.xor_lt_two_pow (n := 32) hx hc, rfl, u32_xor_nat _ _ hx hc⟩
/-- What one look into the table does: its index, the number there, and what comes out. -/
theorem look_step (y : Nat) (hy : y < 4294967296) : ∃ r z y' : Nat, r < 16 ∧ y' < 4294967296 ∧ y' = bitN 4 y ∧ bits .and .u32 (y : Int) 15 = (r : Int) ∧ z = bitN 4 r ∧ bits .xor .u32 ((y : Int) / 16) (z : Int) = (y' : Int) := by
  have hz := bitN_lt 4 (x := y % 16) (by omega)
  refine ⟨y % 16, bitN 4 (y % 16), bitN 4 y, by omega, bitN_lt 4 hy, rfl, ?_, rfl, ?_⟩
  · rw [show (15 : Int) = ((15 : Nat) : Int) from rfl, u32_and_nat _ _ hy (by omega), nat_mask4]
  · rw [show (y : Int) / 16 = ((y / 16 : Nat) : Int) by omega, u32_xor_nat _ _ (by omega) hz, bitN4 y]

set_option maxHeartbeats 1600000 in
theorem more_any {w : World} {A : Option Addr} {c n : Nat} {xs : List UInt8} (hn : xs.length = n) (hs : Sl w A c (bts xs)) (x : Nat) (hx : x < 4294967296) :
    Calls Try.prog 43 #[.agg (tabAt 16), .int .u32 x, .slice A n c] w fun e w' => e = .returned (.int .u32 (crc x xs : Nat)) ∧ Mods Nil w w' := by
  have hmx := hs.max
  have hle := hs.le
  unfold maxLen at hmx
  simp at hle
  have hnc : n ≤ c := by omega
  clear hle
  have hb : ∀ o, o = Obj.cells (tabAt 16) 92 (0, 0) → Blk (w.alloc o) w.heap.size 92 (tabAt 16) ∧ Sl (w.alloc o) A c (bts xs) ∧ Mods Nil w (w.alloc o) := fun o ho => by
    subst ho; exact ⟨Blk.new _ _ _, hs.alloc _, (Mods.refl _ _).alloc _⟩
  have HB := Lib.hid hb
  have HN := Lib.hid hn
  clear hb hs hn
  go_enter Try.func43, Try.ntmps43
  go_wp2_with fail
  have hq := HB.out _ rfl
  generalize w.alloc (Obj.cells (tabAt 16) 92) = W at hq ⊢
  obtain ⟨hb, hs, hm⟩ := hq
  have HT := Lib.hid hb
  have HS := Lib.hid hs
  have HM := Lib.hid hm
  have HX := Lib.hid hx
  clear hb hs hm hx HB
  go_loop [1, 11] (fun x1 i => ∃ (j q : Nat), j ≤ n ∧ i = .int .i64 j ∧ q = crc x (xs.take j) ∧ x1 = .int .u32 q) (fun _ i => n - (intOf i).toNat)
  case atStart => exact ⟨0, x, by omega, rfl, rfl, rfl⟩
  case round =>
    obtain ⟨j, q, hj, rfl, hq, rfl⟩ := hrel
    by_cases hlt : j < n
    · have hjI : (j : Int) < (n : Int) := by omega
      have hjl : j < xs.length := by rw [HN.out]; exact hlt
      obtain ⟨b, off, rfl, _, hcell⟩ := HS.out.at_ (by simp; omega)
      have h0 : W.cell? ⟨b, off + j, none⟩ = some (.int .u8 (xs[j].toNat : Int)) := hcell j _ (bts_get xs j hjl)
      have hc256 := xs[j].toNat_lt
      have hnext : crc x (xs.take (j + 1)) = byte1 q xs[j].toNat := by rw [take_snoc' xs j hjl, crc_snoc, hq]
      have hq32 : q < 4294967296 := by rw [hq]; exact crc_lt HX.out _
      generalize xs[j].toNat = d at h0 hc256 hnext
      obtain ⟨y, hy, ey, h1⟩ := xor_and_step q d hq32 (by omega)
      obtain ⟨r1, z1, y1, hr1, hy1, ey1, h2, ez1, h3⟩ := look_step y hy
      obtain ⟨r2, z2, y2, hr2, hy2, ey2, h4, ez2, h5⟩ := look_step y1 hy1
      have c1 : W.cell? ⟨w.heap.size, r1, none⟩ = some (.int .u32 z1) := by rw [HT.out.cell, tabAt_get r1 hr1, ez1]
      have c2 : W.cell? ⟨w.heap.size, r2, none⟩ = some (.int .u32 z2) := by rw [HT.out.cell, tabAt_get r2 hr2, ez2]
      have HE := Lib.hid (show y2 = crc x (xs.take (j + 1)) by rw [hnext, byte1_two, ← ey, ← ey1, ey2])
      have hw : (d : Int) % 4294967296 = d := by omega
      have hr1' : (r1 : Int) < 16 := by omega
      have hr2' : (r2 : Int) < 16 := by omega
      clear hcell hnext hq hq32 ey ey1 ey2 ez1 ez2 hy hy1 hy2 hjl hc256
      go_wp2_with fail
      exact ⟨⟨j + 1, y2, by omega, by go_num, HE.out, rfl⟩, by simp [intOf]; omega⟩
    · obtain rfl : j = n := by omega
      have HE := Lib.hid (show q = crc x xs by rw [hq, ← HN.out, List.take_length])
      clear hq
      go_wp2_with fail
      go_ret
      exact ⟨by rw [HE.out]; rfl, HM.out⟩
end Go.Proofs.Ytncmmiecfkfcgaa
