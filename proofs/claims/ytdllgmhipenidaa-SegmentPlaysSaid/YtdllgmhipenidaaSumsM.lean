/- Texts laid as one: Sums1, Sums2, Sums3, Sums4, Sums5, Sums6, Sums7. -/
import Derived.Test.YtdllgmhipenidaaBaseM
import Derived.Test.YtdllgmhipenidaaCrcM
import Derived.Laws.BitsAllLaws
import Derived.Laws.Rows
import Derived.Test.YtdllgmhipenidaaInRows
import Derived.Deep.WholeRow
import Derived.Deep.QuietTactic
import Derived.BigQuiet

import Derived.Deep.RegionWith
import Derived.Deep.RegionHeld

section
/- Package sums: a bit more, the table, a byte more. -/
namespace Go.Proofs.Ytdllgmhipenidaa
set_option maxRecDepth 100000
open Go.RowKit

theorem bitMore_any (x : Nat) (hx : x < 4294967296) (w : World) : Calls Try.prog 134 #[.int .u32 x] w fun e w' => e = .returned (.int .u32 (bit1 x : Nat)) ∧ w = w' := by
  rcases Nat.mod_two_eq_zero_or_one x with h | h
  · have e : ((bit1 x : Nat) : Int) = (x / 2 : Nat) := by rw [bit1_even h]
    have HE := Lib.hid e
    clear e
    have h2 : (x : Int) % 2 = 0 := by omega
    go_enter Try.func134, Try.ntmps134
    go_wp2_with fail
    --DBG
    go_ret
    exact ⟨by rw [HE.out]; rfl, rfl⟩
  · have e : ((bit1 x : Nat) : Int) = bits .xor .u32 ((x / 2 : Nat) : Int) 2197175160 := by
      rw [bit1_odd h, show (2197175160 : Int) = ((2197175160 : Nat) : Int) from rfl, u32_xor_nat _ _ (by omega) (by omega)]
    have HE := Lib.hid e
    clear e
    have h2 : (x : Int) % 2 = 1 := by omega
    go_enter Try.func134, Try.ntmps134
    go_wp2_with fail
    --DBG
    go_ret
    exact ⟨by rw [HE.out]; rfl, rfl⟩
end Go.Proofs.Ytdllgmhipenidaa
end

section
/- Package sums: the table. -/
namespace Go.Proofs.Ytdllgmhipenidaa
set_option maxRecDepth 100000
open Go.RowKit
set_option linter.unusedVariables false

/-- The table as far as it is made. -/
def tabAt (k : Nat) : Array Value := Array.ofFn (n := 16) fun i => if i.val < k then .int .u32 ((bitN 4 i.val : Nat) : Int) else .int .u32 0
theorem tabAt_size (k : Nat) : (tabAt k).size = 16 := by simp [tabAt]
theorem tabAt_zero : tabAt 0 = #[.int .u32 0, .int .u32 0, .int .u32 0, .int .u32 0, .int .u32 0, .int .u32 0, .int .u32 0, .int .u32 0, .int .u32 0, .int .u32 0, .int .u32 0, .int .u32 0, .int .u32 0, .int .u32 0, .int .u32 0, .int .u32 0] := by rfl
theorem tabAt_get (i : Nat) (h : i < 16) : (tabAt 16)[i]? = some (.int .u32 ((bitN 4 i : Nat) : Int)) := by
  simp [tabAt, h]
theorem tabAt_set (k : Nat) (h : k < 16) : (tabAt k).setIfInBounds k (.int .u32 ((bitN 4 k : Nat) : Int)) = tabAt (k + 1) := by
  apply Array.ext
  · simp [tabAt]
  · intro i h1 h2
    rw [Array.getElem_setIfInBounds]
    · by_cases hk : k = i
      · subst hk; simp [tabAt]
      · rw [if_neg hk]
        simp only [tabAt, Array.getElem_ofFn]
        by_cases hi : i < k
        · rw [if_pos hi, if_pos (by omega)]
        · rw [if_neg hi, if_neg (by omega)]
    · simpa [tabAt] using h1
theorem tabAt_one (k : Nat) : (tabAt k).all (·.oneCell') = true := by
  rw [Array.all_eq_true]
  intro i h
  simp only [tabAt, Array.getElem_ofFn]
  split <;> rfl
theorem bitN_snoc (n x : Nat) : bitN (n + 1) x = bit1 (bitN n x) := by rw [bitN_add]; rfl

theorem tabAt_next (k : Nat) (h : k < 16) : (tabAt k)[k]? = some (.int .u32 0) := by simp [tabAt, h]

set_option maxRecDepth 100000 in
set_option maxHeartbeats 1600000 in
theorem newTable_any (w : World) : Calls Try.prog 132 #[] w fun e w' => e = .returned (.agg (tabAt 16)) ∧ Mods Nil w w' := by
  go_enter Try.func132, Try.ntmps132
  go_wp2_with fail
  go_loopw [4] (fun i wr => ∃ k : Nat, k ≤ 16 ∧ i = .int .i64 k ∧ Blk wr (w.heap.size + 1) 175 (tabAt k) ∧ Blk wr w.heap.size 175 (tabAt 0) ∧ Mods Nil w wr) (fun i _ => 16 - (intOf i).toNat)
  case atStart =>
    refine ⟨0, by omega, rfl, ?_, ?_, ((Mods.refl _ _).alloc _).alloc _⟩
    · have := Blk.new (w.alloc (.cells (tabAt 0) 175)) 175 (tabAt 0)
      rw [tabAt_zero] at this ⊢
      simpa using this
    · have := (Blk.new w 175 (tabAt 0)).alloc (.cells (tabAt 0) 175)
      rw [tabAt_zero] at this ⊢
      exact this
  case round =>
    obtain ⟨k, hk, rfl, hb, hb0, hmo⟩ := hrel
    by_cases hlt : k < 16
    · have hc : wr.cell? ⟨w.heap.size + 1, k, none⟩ = some (.int .u32 0) := by rw [hb.cell k]; exact tabAt_next k hlt
      have hf := hb.frozen k
      have HB := Lib.hid hb
      have HB0 := Lib.hid hb0
      have HM := Lib.hid hmo
      clear hb hb0 hmo
      have hltI : (k : Int) < 16 := by omega
      have hkw : (k : Int) % 4294967296 = k := by omega
      go_wp2_with fail
      go_loop [3, 9] (fun x i => ∃ j : Nat, j ≤ 4 ∧ i = .int .i64 j ∧ x = .int .u32 (bitN j k : Nat)) (fun _ i => 4 - (intOf i).toNat)
      case atStart => exact ⟨0, by omega, rfl, rfl⟩
      case round =>
        obtain ⟨j, hj, rfl, rfl⟩ := hrel
        by_cases hl : j < 4
        · have HL := Lib.hid (bitN_lt j (x := k) (by omega))
          have hlI : (j : Int) < 4 := by omega
          go_wp2_with (first | (go_at_call 134; refine (bitMore_any _ HL.out _).mono ?_; rintro e w1 ⟨rfl, rfl⟩))
          exact ⟨⟨j + 1, by omega, by go_num, by rw [bitN_snoc]⟩, by simp [intOf]; omega⟩
        · obtain rfl : j = 4 := by omega
          go_wp2_with fail
          refine ⟨⟨k + 1, by omega, by go_num, ?_, HB0.out.far (by simp) _, HM.out.setCell (fun h => by simp at h; omega) _⟩, by simp [intOf]; omega⟩
          have := HB.out.set_ k (.int .u32 (bitN 4 k : Nat))
          rw [tabAt_set k hlt] at this
          exact this
    · obtain rfl : k = 16 := by omega
      have hst := run_storeCells_blk (P := Try.prog) hb0 (new := tabAt 16) (by rw [tabAt_size, tabAt_size]) (tabAt_one 16)
      go_wp2_with (first | refine wpList_load_row rfl _ _ rfl _ rfl _ (tabAt 16) (0, 0) _ hb Try.underlying175 rfl rfl ?_)
      refine bodyPost_ret (v := .agg (tabAt 16)) (results_cell_row rfl _ _ w.heap.size _ (tabAt 16) (0, 0) _ rfl (hb0.setRow (tabAt 16)) Try.underlying175 rfl rfl) rfl ⟨rfl, ?_⟩
      exact hmo.setRow (fun h => by omega) _
end Go.Proofs.Ytdllgmhipenidaa
end

section
/- Package sums: a byte more for each of a row. -/
namespace Go.Proofs.Ytdllgmhipenidaa
set_option maxRecDepth 100000
open Go.RowKit

theorem xor_and_step (x c : Nat) (hx : x < 4294967296) (hc : c < 4294967296) : ∃ y, y < 4294967296 ∧ y = x ^^^ c ∧ bits .xor .u32 (x : Int) (c : Int) = (y : Int) :=
  ⟨x ^^^ c, Nat.xor_lt_two_pow (n := 32) hx hc, rfl, u32_xor_nat _ _ hx hc⟩
/-- What one look into the table does: its index, the number there, and what comes out. -/
theorem look_step (y : Nat) (hy : y < 4294967296) : ∃ r z y' : Nat, r < 16 ∧ y' < 4294967296 ∧ y' = bitN 4 y ∧ bits .and .u32 (y : Int) 15 = (r : Int) ∧ z = bitN 4 r ∧ bits .xor .u32 ((y : Int) / 16) (z : Int) = (y' : Int) := by
  have hz := bitN_lt 4 (x := y % 16) (by omega)
  refine ⟨y % 16, bitN 4 (y % 16), bitN 4 y, by omega, bitN_lt 4 hy, rfl, ?_, rfl, ?_⟩
  · rw [show (15 : Int) = ((15 : Nat) : Int) from rfl, u32_and_nat _ _ hy (by omega), nat_mask4]
  · rw [show (y : Int) / 16 = ((y / 16 : Nat) : Int) by omega, u32_xor_nat _ _ (by omega) hz, bitN4 y]

set_option maxHeartbeats 1600000 in
theorem more_any {w : World} {A : Option Addr} {c n : Nat} {xs : List UInt8} (hn : xs.length = n) (hs : Sl w A c (bts xs)) (x : Nat) (hx : x < 4294967296) :
    Calls Try.prog 133 #[.agg (tabAt 16), .int .u32 x, .slice A n c] w fun e w' => e = .returned (.int .u32 (crc x xs : Nat)) ∧ Mods Nil w w' := by
  have hmx := hs.max
  have hle := hs.le
  unfold maxLen at hmx
  simp at hle
  have hnc : n ≤ c := by omega
  clear hle
  have hb : ∀ o, o = Obj.cells (tabAt 16) 175 (0, 0) → Blk (w.alloc o) w.heap.size 175 (tabAt 16) ∧ Sl (w.alloc o) A c (bts xs) ∧ Mods Nil w (w.alloc o) := fun o ho => by
    subst ho; exact ⟨Blk.new _ _ _, hs.alloc _, (Mods.refl _ _).alloc _⟩
  have HB := Lib.hid hb
  have HN := Lib.hid hn
  clear hb hs hn
  go_enter Try.func133, Try.ntmps133
  go_wp2_with fail
  have hq := HB.out _ rfl
  generalize w.alloc (Obj.cells (tabAt 16) 175) = W at hq ⊢
  obtain ⟨hb, hs, hm⟩ := hq
  have HT := Lib.hid hb
  have HS := Lib.hid hs
  have HM := Lib.hid hm
  have HX := Lib.hid hx
  clear hb hs hm hx HB
  go_loop [1, 11] (fun x1 i => ∃ (j q : Nat), j ≤ n ∧ i = .int .i64 j ∧ q = crc x (xs.take j) ∧ x1 = .int .u32 q) (fun _ i => n - (intOf i).toNat)
  case atStart => exact ⟨0, x, by omega, rfl, rfl, rfl⟩
  case round =>
    obtain ⟨j, q, hj, rfl, hq, rfl⟩ := hrel
    by_cases hlt : j < n
    · have hjI : (j : Int) < (n : Int) := by omega
      have hjl : j < xs.length := by rw [HN.out]; exact hlt
      obtain ⟨b, off, rfl, _, hcell⟩ := HS.out.at_ (by simp; omega)
      have h0 : W.cell? ⟨b, off + j, none⟩ = some (.int .u8 (xs[j].toNat : Int)) := hcell j _ (bts_get xs j hjl)
      have hc256 := xs[j].toNat_lt
      have hnext : crc x (xs.take (j + 1)) = byte1 q xs[j].toNat := by rw [take_snoc' xs j hjl, crc_snoc, hq]
      have hq32 : q < 4294967296 := by rw [hq]; exact crc_lt HX.out _
      generalize xs[j].toNat = d at h0 hc256 hnext
      obtain ⟨y, hy, ey, h1⟩ := xor_and_step q d hq32 (by omega)
      obtain ⟨r1, z1, y1, hr1, hy1, ey1, h2, ez1, h3⟩ := look_step y hy
      obtain ⟨r2, z2, y2, hr2, hy2, ey2, h4, ez2, h5⟩ := look_step y1 hy1
      have c1 : W.cell? ⟨w.heap.size, r1, none⟩ = some (.int .u32 z1) := by rw [HT.out.cell, tabAt_get r1 hr1, ez1]
      have c2 : W.cell? ⟨w.heap.size, r2, none⟩ = some (.int .u32 z2) := by rw [HT.out.cell, tabAt_get r2 hr2, ez2]
      have HE := Lib.hid (show y2 = crc x (xs.take (j + 1)) by rw [hnext, byte1_two, ← ey, ← ey1, ey2])
      have hw : (d : Int) % 4294967296 = d := by omega
      have hr1' : (r1 : Int) < 16 := by omega
      have hr2' : (r2 : Int) < 16 := by omega
      clear hcell hnext hq hq32 ey ey1 ey2 ez1 ez2 hy hy1 hy2 hjl hc256
      go_wp2_with fail
      exact ⟨⟨j + 1, y2, by omega, by go_num, HE.out, rfl⟩, by simp [intOf]; omega⟩
    · obtain rfl : j = n := by omega
      have HE := Lib.hid (show q = crc x xs by rw [hq, ← HN.out, List.take_length])
      clear hq
      go_wp2_with fail
      go_ret
      exact ⟨by rw [HE.out]; rfl, HM.out⟩
end Go.Proofs.Ytdllgmhipenidaa
end

section
/- Package sums: the sum of rows of bytes. -/
namespace Go.Proofs.Ytdllgmhipenidaa
set_option maxRecDepth 100000
open Go.RowKit

theorem not_u32 (q : Nat) (h : q < 4294967296) : bits .xor .u32 IntKind.u32.max (q : Int) = ((4294967295 - q : Nat) : Int) := by
  rw [show IntKind.u32.max = ((4294967295 : Nat) : Int) from rfl, u32_xor_nat _ _ (by omega) h]
  congr 1
  apply Nat.eq_of_testBit_eq
  intro i
  rw [Nat.testBit_xor, show (4294967295 : Nat) = 2 ^ 32 - 1 from rfl, Nat.testBit_two_pow_sub_one, show 2 ^ 32 - 1 - q = 2 ^ 32 - (q + 1) by omega, Nat.testBit_two_pow_sub_succ h]
  by_cases hi : i < 32
  · simp [hi]
  · have : q.testBit i = false := Nat.testBit_lt_two_pow (Nat.lt_of_lt_of_le h (show 2 ^ 32 ≤ 2 ^ i from Nat.pow_le_pow_right (by omega) (by omega)))
    simp [hi, this]

set_option maxHeartbeats 1600000 in
theorem of_any {w : World} {A : Option Addr} {c n : Nat} {l : List Row} (hn : l.length = n) (hs : Sl w A c (l.map Row.val)) (hr : ∀ r ∈ l, r.ok w) :
    Calls Try.prog 129 #[.slice A n c] w fun e w' => e = .returned (.int .u32 (sumOf (flat l) : Nat)) ∧ Mods Nil w w' := by
  have hmx := hs.max
  have hle := hs.le
  unfold maxLen at hmx
  simp at hle
  have hnc : n ≤ c := by omega
  clear hle
  have HN := Lib.hid hn
  have HS := Lib.hid hs
  have HR := Lib.hid hr
  clear hn hs hr
  go_enter Try.func129, Try.ntmps129
  go_wp2_with (first | (go_at_call 132; refine (newTable_any _).mono ?_; rintro e w1 ⟨rfl, m1⟩; have M1 := Lib.hid m1; have hst := run_storeCells_blk (P := Try.prog) (Blk.new w1 175 (tabAt 0)) (new := tabAt 16) (by rw [tabAt_size, tabAt_size]) (tabAt_one 16); rw [World.setRow_alloc_new, tabAt_zero] at hst; clear m1))
  have hq : Blk (w1.alloc (.cells (tabAt 16) 175)) w1.heap.size 175 (tabAt 16) ∧ Mods Nil w (w1.alloc (.cells (tabAt 16) 175)) := ⟨Blk.new _ _ _, M1.out.alloc _⟩
  generalize w1.alloc (Obj.cells (tabAt 16) 175) = W at hq ⊢
  obtain ⟨hb, hm⟩ := hq
  have hg : w.heap.size ≤ w1.heap.size := M1.out.size
  generalize w1.heap.size = g at hb hg ⊢
  clear hst M1
  go_loopw [4, 10] (fun x1 i wr => ∃ (j q : Nat), j ≤ n ∧ i = .int .i64 j ∧ q = crc 4294967295 (flat (l.take j)) ∧ x1 = .int .u32 q ∧ Blk wr g 175 (tabAt 16) ∧ Mods Nil w wr) (fun _ i _ => n - (intOf i).toNat)
  case atStart => exact ⟨0, 4294967295, by omega, rfl, rfl, rfl, hb, hm⟩
  case round =>
    clear hb hm
    obtain ⟨j, q, hj, rfl, hq, rfl, hb, hm⟩ := hrel
    by_cases hlt : j < n
    · have hjI : (j : Int) < (n : Int) := by omega
      have hjl : j < l.length := by rw [HN.out]; exact hlt
      obtain ⟨b, off, rfl, _, hcell⟩ := (HS.out.mods hm (fun _ _ h => h)).at_ (by simp; omega)
      have h0 : wr.cell? ⟨b, off + j, none⟩ = some (.slice l[j].A l[j].xs.length l[j].c) := hcell j _ (by simp [hjl, Row.val])
      have hnext : crc 4294967295 (flat (l.take (j + 1))) = crc q l[j].xs := by
        rw [List.take_succ_eq_append_getElem hjl, flat_snoc, crc_append, hq]
      have hok := (HR.out l[j] (List.getElem_mem hjl)).mods hm
      have hq32 : q < 4294967296 := by rw [hq]; exact crc_lt (by omega) _
      generalize l[j] = r at h0 hnext hok
      have HC := Lib.hid (fun (_ : Unit) => more_any (n := r.xs.length) rfl hok q hq32)
      have HX := Lib.hid hnext
      have HB := Lib.hid hb
      have HM := Lib.hid hm
      clear hcell hnext hok hq hq32 hjl hm
      go_wp2_with (first
        | (refine wpList_load_row rfl _ _ rfl _ rfl _ (tabAt 16) (0, 0) _ hb Try.underlying175 rfl rfl ?_)
        | (go_at_call 133; refine (HC.out ()).mono ?_; rintro e w2 ⟨rfl, m2⟩; have M2 := Lib.hid m2; clear m2))
      exact ⟨⟨j + 1, _, by omega, by go_num, HX.out.symm, rfl, HB.out.mods M2.out (fun h => h), HM.out.trans M2.out⟩, by simp [intOf]; omega⟩
    · obtain rfl : j = n := by omega
      have HE := Lib.hid (show q = crc 4294967295 (flat l) by rw [hq, ← HN.out, List.take_length])
      clear hq
      go_wp2_with fail
      go_ret
      refine ⟨?_, hm⟩
      show Ending.returned (.int .u32 (bits .xor .u32 IntKind.u32.max (q : Int))) = _
      rw [not_u32 q (by rw [HE.out]; exact crc_lt (by omega) _), HE.out]
      rfl
end Go.Proofs.Ytdllgmhipenidaa
end

section
/- Package sums: four bytes put behind a row; what is sealed; what is right. -/
namespace Go.Proofs.Ytdllgmhipenidaa
set_option maxRecDepth 100000
open Go.RowKit
set_option linter.unusedVariables false

theorem bts_fourOf (x : Nat) (hx : x < 4294967296) : [Value.int .u8 ((x : Int) / 16777216), .int .u8 ((x : Int) / 65536 % 256), .int .u8 ((x : Int) / 256 % 256), .int .u8 ((x : Int) % 256)] = bts (fourOf x) := by
  have e (n : Nat) : ((UInt8.ofNat n).toNat : Int) = (n : Int) % 256 := by simp
  simp only [bts, fourOf, List.map_cons, List.map_nil, e]
  rw [show ((x / 16777216 : Nat) : Int) % 256 = (x : Int) / 16777216 by omega, show ((x / 65536 : Nat) : Int) = (x : Int) / 65536 by omega, show ((x / 256 : Nat) : Int) = (x : Int) / 256 by omega]
theorem fourOf_length (x : Nat) : (fourOf x).length = 4 := rfl

set_option maxHeartbeats 1600000 in
theorem put_any {w : World} {base n : Nat} {v : Value} {xs : List UInt8} (hown : w.ownsRow base 5 1 v n (bts xs)) (hbase : base ≤ w.heap.size) (hlim : n + 4 ≤ 140737488355328) (x : Nat) (hx : x < 4294967296) :
    Calls Try.prog 128 #[v, .int .u32 x] w fun e w' => ∃ v', e = .returned v' ∧ w'.ownsRow base 5 1 v' (n + 4) (bts (xs ++ fourOf x)) ∧ w.grownBy w' v.ownBlock ∧ (∀ k, v'.ownBlock = some k → v.ownBlock = some k ∨ w.heap.size ≤ k) := by
  obtain ⟨i0, hi, hz0, hz1, hz2⟩ := info_parts infoByte
  have HO : Hid (∀ o, (w.alloc o).ownsRow base 5 1 v n (bts xs)) := Lib.hid (fun o => own_mods hown (S := Nil) ((Mods.refl _ _).alloc o) (fun _ _ h => h))
  have HS : Hid (∀ cs : Array Value, cs.toList = bts (fourOf x) → Sl (w.alloc (.cells cs 5)) (some ⟨w.heap.size, 0, none⟩) 4 (bts (fourOf x))) := Lib.hid (fun cs h => by
    have hz : cs.size = 4 := by rw [← Array.length_toList, h]; rfl
    have := build_sl w cs 5 (0, 0) (by rw [hz]; unfold maxLen; omega)
    rw [hz, h] at this
    exact this)
  have HF := Lib.hid (bts_fourOf x hx)
  have HG : Hid (∀ o w1, (w.alloc o).grownBy w1 v.ownBlock → w.grownBy w1 v.ownBlock) := Lib.hid (fun o w1 h => ⟨h.os, h.tape, h.output, Nat.le_trans (by simp) h.size, fun k hk hn => (h.block k (by simp; omega) hn).trans (Below.heap_alloc _ _ _ hk)⟩)
  clear hown
  go_enter Try.func128, Try.ntmps128
  go_wp2_with (first | (at_builtin; refine wpList_append_sl _ rfl _ _ 42 rfl base 5 i0 (.int .u8 0) 1 Try.underlying42 hi hz0 hz1 hz2 rfl v n (bts xs) rfl (HO.out _) (some ⟨w.heap.size, 0, none⟩) 4 4 (bts (fourOf x)) rfl (by simp [fourOf]) (HS.out _ HF.out) (bts_one _) (by omega) (by unfold maxLen; omega) (Nat.le_trans hbase (by simp)) ?_; intro v' w1 hown hgrow hblk; have HO1 := Lib.hid hown; have HG1 := Lib.hid (HG.out _ _ hgrow); have HB1 := Lib.hid hblk; clear hown hgrow hblk))
  go_ret
  exact ⟨v', rfl, by rw [bts_append]; exact HO1.out, HG1.out, fun k hk => (HB1.out k hk).imp_right (fun h => by simp at h; omega)⟩
end Go.Proofs.Ytdllgmhipenidaa
end

section
/- Package sums: what is sealed; bytes compared; what is right. -/
namespace Go.Proofs.Ytdllgmhipenidaa
set_option maxRecDepth 100000
open Go.RowKit
set_option linter.unusedVariables false

/-- One row, as a row of rows in a new block. -/
theorem one_row {w : World} {A : Option Addr} {c n : Nat} {xs : List UInt8} (hn : xs.length = n) : Sl (w.alloc (.cells #[.slice A n c] 42)) (some ⟨w.heap.size, 0, none⟩) 1 ([(⟨A, c, xs⟩ : Row)].map Row.val) := by
  subst hn
  exact one_sl w _ _
theorem flat_one (A : Option Addr) (c : Nat) (xs : List UInt8) : flat [⟨A, c, xs⟩] = xs := by simp [flat]
theorem Mods.ofGrown {w w' : World} (hg : w.grownBy w' none) : Mods Nil w w' := (Mods.refl _ _).grown hg (fun k hk => by cases hk)

set_option maxHeartbeats 1600000 in
theorem sealed_any {w : World} {A : Option Addr} {c n : Nat} {xs : List UInt8} (hn : xs.length = n) (hlim : n + 4 ≤ 140737488355328) (hs : Sl w A c (bts xs)) :
    Calls Try.prog 120 #[.slice A n c] w fun e w' => ∃ v, e = .returned v ∧ w'.ownsRow w.heap.size 5 1 v (n + 4) (bts (sealedOf xs)) ∧ Mods Nil w w' := by
  obtain ⟨i0, hi, hz0, hz1, hz2⟩ := info_parts infoByte
  have hle := hs.le
  simp at hle
  have HN := Lib.hid hn
  have HS := Lib.hid hs
  have HL := Lib.hid hlim
  have h4 : (n : Int) + 4 ≤ 140737488355328 := by omega
  clear hn hs hle hlim
  go_enter Try.func120, Try.ntmps120
  go_wp2_with (first
    | (at_make; refine wpList_make_own _ rfl _ _ _ rfl w.heap.size 5 i0 (.int .u8 0) 1 Try.underlying42 hi hz0 hz1 _ _ _ (n + 4) rfl rfl (by omega) (by have := HL.out; rw [hz2]; omega) (by have := HL.out; unfold maxLen; omega) (Nat.le_refl _) ?_; intro w1 hown hgrow; have HO1 := Lib.hid hown; have M1 := Lib.hid (Mods.ofGrown hgrow); have S1 := Lib.hid (HS.out.mods M1.out (fun _ _ h => h)); clear hown hgrow)
    | (at_builtin; refine wpList_append_sl _ rfl _ _ 42 rfl w.heap.size 5 i0 (.int .u8 0) 1 Try.underlying42 hi hz0 hz1 hz2 rfl (.slice (some ⟨w.heap.size, 0, none⟩) 0 (n + 4)) 0 [] rfl HO1.out A n c (bts xs) rfl (by simp; exact HN.out) S1.out (bts_one _) (by have := HL.out; omega) (by have := HL.out; unfold maxLen; omega) M1.out.size ?_; intro v2 w2 hown hgrow hblk; simp only [Nat.zero_add, List.nil_append] at hown; have HO2 := Lib.hid hown; have M2 := Lib.hid (show Mods Nil w w2 from M1.out.trans2 (T := fun k => k = w.heap.size) ((Mods.refl _ _).grown hgrow (fun k hk _ => by simp [Value.ownBlock] at hk; exact hk.symm)) (fun i hi' e => by omega)); have S2 := Lib.hid (HS.out.mods M2.out (fun _ _ h => h)); clear hown hgrow hblk)
    | (go_at_call 129; refine (of_any (l := [⟨A, c, xs⟩]) rfl (one_row HN.out) (by intro r hr; simp at hr; subst hr; exact S2.out.alloc _)).mono ?_; rintro e w3 ⟨rfl, m3⟩; have HO3 := Lib.hid (own_mods HO2.out ((Mods.refl Nil w2).alloc _ |>.trans m3) (fun _ _ h => h)); have M3 := Lib.hid ((M2.out.alloc _).trans m3); clear m3)
    | (go_at_call 128; refine (put_any HO3.out M3.out.size (by have := HL.out; omega) _ (sumOf_lt _)).mono ?_; rintro e w4 ⟨v4, rfl, hown, hgrow, hblk⟩; have HO4 := Lib.hid hown; have M4 := Lib.hid (show Mods Nil w w4 from M3.out.nil_trans (T := fun k => v2.ownBlock = some k) ((Mods.refl _ _).grown hgrow (fun k hk _ => hk)) (fun i hi' => (HO3.out.lt i hi').1)); clear hown hgrow hblk))
  go_ret
  refine ⟨v4, rfl, ?_, M4.out⟩
  have := HO4.out
  rw [flat_one] at this
  exact this

/-- The same, as a slice. -/
theorem sealed_to {w : World} {A : Option Addr} {c n m : Nat} {xs : List UInt8} (hn : xs.length = n) (hm : n + 4 = m) (hlim : m ≤ 140737488355328) (hs : Sl w A c (bts xs)) :
    Calls Try.prog 120 #[.slice A n c] w fun e w' => ∃ A' c', e = .returned (.slice A' m c') ∧ Sl w' A' c' (bts (sealedOf xs)) ∧ m ≤ c' ∧ c' ≤ maxLen ∧ (∀ a, A' = some a → w.heap.size ≤ a.block) ∧ Mods Nil w w' := by
  subst hm
  refine (sealed_any hn hlim hs).mono ?_
  rintro e w' ⟨v, rfl, o, m⟩
  obtain ⟨A', c', rfl, f, s, b⟩ := own_slice o
  exact ⟨A', c', rfl, s, by have := s.le; rw [bts_length, sealedOf_length] at this; omega, s.max, fun a ha => (b a ha).2, m⟩
end Go.Proofs.Ytdllgmhipenidaa
end

section
/- Package sums: bytes compared; what is right. -/
namespace Go.Proofs.Ytdllgmhipenidaa
set_option maxRecDepth 100000
open Go.RowKit
set_option linter.unusedVariables false

theorem equal_any {w : World} {A B : Option Addr} {c d n m : Nat} {xs ys : List UInt8} (hn : xs.length = n) (hm : ys.length = m) (hs : Sl w A c (bts xs)) (hy : Sl w B d (bts ys)) :
    Calls Try.prog 130 #[.slice A n c, .slice B m d] w fun e w' => e = .returned (.bool (decide (xs = ys))) ∧ w = w' := by
  have k1 := run_string_sl (P := Try.prog) w 42 5 Try.underlying42 Try.underlying5 A n c xs hn hs 9 Try.underlying9
  have k2 := run_string_sl (P := Try.prog) w 42 5 Try.underlying42 Try.underlying5 B m d ys hm hy 9 Try.underlying9
  have e1 := strOf_toList xs
  have e2 := strOf_toList ys
  clear hs hy hn hm
  go_enter Try.func130, Try.ntmps130
  go_wp2_with fail
  go_ret
  refine ⟨?_, rfl⟩
  show Ending.returned (.bool (xs == ys)) = _
  rw [show (xs == ys) = decide (xs = ys) by rw [Bool.eq_iff_iff]; simp]

set_option maxHeartbeats 3200000 in
theorem right_any {w : World} {A : Option Addr} {c n : Nat} {xs : List UInt8} (hn : xs.length = n) (hs : Sl w A c (bts xs)) :
    Calls Try.prog 124 #[.slice A n c] w fun e w' => e = .returned (.bool (rightOf xs)) ∧ Mods Nil w w' := by
  have hle := hs.le
  have hmx := hs.max
  unfold maxLen at hmx
  simp at hle
  by_cases h4 : n < 4
  · rw [rightOf_short (by omega)]
    have hd1 : decide ((4 : Int) ≤ (n : Int)) = false := by simp; omega
    have hn4 : n ≤ 4 := by omega
    clear hs hle hmx h4 hn
    go_enter Try.func124, Try.ntmps124
    go_wp2_with fail
    go_quiet (fail)
    go_wp2
    go_ret
    exact ⟨rfl, (Mods.refl _ _).drewN _⟩
  · obtain ⟨k, rfl⟩ : ∃ k, n = k + 4 := ⟨n - 4, by omega⟩
    rw [rightOf_long hn]
    obtain ⟨b, off, rfl, hbl, _⟩ := hs.at_ (by simp; omega)
    have hcut := hs.cut (k := k) (by simp; omega)
    rw [if_neg (by omega), bts_drop] at hcut
    simp only [Option.map_some, Addr.add_lit] at hcut
    have htake := hs.take k
    rw [bts_take] at htake
    have HC := Lib.hid hcut
    have HT := Lib.hid htake
    have HN := Lib.hid hn
    have hkc : k + 4 ≤ c := by omega
    have hlt : (xs.take k).length = k := by simp; omega
    have hld : (xs.drop k).length = 4 := by simp; omega
    have HLT := Lib.hid hlt
    have HLD := Lib.hid hld
    clear hcut htake hn hs hle h4 hlt hld
    go_enter Try.func124, Try.ntmps124
    have hk0 : (0 : Int) ≤ (k : Int) := by omega
    have hd1 : decide ((0 : Int) ≤ (k : Int)) = true := by simp
    have hkcI : (k : Int) + 4 ≤ (c : Int) := by omega
    have hkcJ : (k : Int) ≤ (c : Int) := by omega
    have hck : ¬ c = k := by omega
    have hsub : k + 4 - k = 4 := by omega
    go_wp2_with fail
    go_region_held (fun _ => True) (trivial) (first
      | (go_at_call 129; refine (of_any (l := [⟨some ⟨b, off, none⟩, c, xs.take k⟩]) rfl (one_row HLT.out) (by intro r hr; simp at hr; subst hr; exact (HT.out.drew.alloc _))).mono ?_; rintro e w3 ⟨rfl, m3⟩; have M3 := Lib.hid ((((Mods.refl Nil w).drew.alloc _)).trans m3); clear m3)
      | (go_at_call 128; refine (put_any (v := .slice none 0 0) (n := 0) (xs := []) (World.ownsRow_nil _ _ _ _) (Nat.le_refl _) (by omega) _ (sumOf_lt _)).mono ?_; rintro e w4 ⟨v4, rfl, hown, hgrow, hblk⟩; obtain ⟨A4, c4, rfl, e4, s4, b4⟩ := own_slice hown; have S4 := Lib.hid s4; have M4 := Lib.hid (M3.out.trans (Mods.ofGrown hgrow)); clear hown hgrow hblk e4 s4 b4)
      | (go_at_call 130; refine (equal_any HLD.out rfl (HC.out.mods M4.out (fun _ _ h => h)) S4.out).mono ?_; rintro e w5 ⟨rfl, rfl⟩))
    all_goals
      go_wp2
      go_ret
      exact ⟨by rw [flat_one]; rfl, M4.out⟩
end Go.Proofs.Ytdllgmhipenidaa
end
