/- Package sums: the sum of rows of bytes. -/
import Derived.Test.YtncmmiecfkfcgaaSums3
import Derived.Test.YtncmmiecfkfcgaaInRows
import Derived.Deep.WholeRow
namespace Go.Proofs.Ytncmmiecfkfcgaa
open Go.RowKit


theorem not_u32 (q : Nat) (h : q < 4294967296) : bits .xor .u32 IntKind.u32.max (q : Int) = ((4294967295 - q : Nat) : Int) := by
  rw [show IntKind.u32.max = ((4294967295 : Nat) : Int) from rfl, u32_xor_nat _ _ (by omega) h]
  congr 1
  apply Nat.eq_of_testBit_eq
  intro i
  rw [Nat.testBit_xor, show (4294967295 : Nat) = 2 ^ 32 - 1 from rfl, Nat.testBit_two_pow_sub_one, show 2 ^ 32 - 1 - q = 2 ^ 32 - (q + 1) by omega, Nat.testBit_two_pow_sub_succ h]
  by_cases hi : i < 32
  · simp [hi]
  · have : q.testBit i = false := Nat.testBit_lt_two_pow (Nat.lt_of_lt_of_le h (show 2 ^ 32 ≤ 2 ^ i from Nat.pow_le_pow_right (by omega) (by omega)))
    simp [hi, this]

set_option maxHeartbeats 1600000 in
theorem of_any {w : World} {A : Option Addr} {c n : Nat} {l : List Row} (hn : l.length = n) (hs : Sl w A c (l.map Row.val)) (hr : ∀ r ∈ l, r.ok w) :
    Calls Try.prog 33 #[.slice A n c] w fun e w' => e = .returned (.int .u32 (sumOf (flat l) : Nat)) ∧ Mods Nil w w' := by
  have hmx := hs.max
  have hle := hs.le
  unfold maxLen at hmx
  simp at hle
  have hnc : n ≤ c := by omega
  clear hle
  have HN := Lib.hid hn
  have HS := Lib.hid hs
  have HR := Lib.hid hr
  clear hn hs hr
  go_enter Try.func33, Try.ntmps33
  go_wp2_with (first | (go_at_call 42; refine (newTable_any _).mono ?_; rintro e w1 ⟨rfl, m1⟩; have M1 := Lib.hid m1; have hst := run_storeCells_blk (P := Try.prog) (Blk.new w1 92 (tabAt 0)) (new := tabAt 16) (by rw [tabAt_size, tabAt_size]) (tabAt_one 16); rw [World.setRow_alloc_new, tabAt_zero] at hst; clear m1))
  have hq : Blk (w1.alloc (.cells (tabAt 16) 92)) w1.heap.size 92 (tabAt 16) ∧ Mods Nil w (w1.alloc (.cells (tabAt 16) 92)) := ⟨Blk.new _ _ _, M1.out.alloc _⟩
  generalize w1.alloc (Obj.cells (tabAt 16) 92) = W at hq ⊢
  obtain ⟨hb, hm⟩ := hq
  have hg : w.heap.size ≤ w1.heap.size := M1.out.size
  generalize w1.heap.size = g at hb hg ⊢
  clear hst M1
  go_loopw [4, 10] (fun x1 i wr => ∃ (j q : Nat), j ≤ n ∧ i = .int .i64 j ∧ q = crc 4294967295 (flat (l.take j)) ∧ x1 = .int .u32 q ∧ Blk wr g 92 (tabAt 16) ∧ Mods Nil w wr) (fun _ i _ => n - (intOf i).toNat)
  case atStart => exact ⟨0, 4294967295, by omega, rfl, rfl, rfl, hb, hm⟩
  case round =>
    clear hb hm
    obtain ⟨j, q, hj, rfl, hq, rfl, hb, hm⟩ := hrel
    by_cases hlt : j < n
    · have hjI : (j : Int) < (n : Int) := by omega
      have hjl : j < l.length := by rw [HN.out]; exact hlt
      obtain ⟨b, off, rfl, _, hcell⟩ := (HS.out.mods hm (fun _ _ h => h)).at_ (by simp; omega)
      have h0 : wr.cell? ⟨b, off + j, none⟩ = some (.slice l[j].A l[j].xs.length l[j].c) := hcell j _ (by simp [hjl, Row.val])
      have hnext : crc 4294967295 (flat (l.take (j + 1))) = crc q l[j].xs := by
        rw [List.take_succ_eq_append_getElem hjl, flat_snoc, crc_append, hq]
      have hok := (HR.out l[j] (List.getElem_mem hjl)).mods hm
      have hq32 : q < 4294967296 := by rw [hq]; exact crc_lt (by omega) _
      generalize l[j] = r at h0 hnext hok
      have HC := Lib.hid (fun (_ : Unit) => more_any (n := r.xs.length) rfl hok q hq32)
      have HX := Lib.hid hnext
      have HB := Lib.hid hb
      have HM := Lib.hid hm
      clear hcell hnext hok hq hq32 hjl hm
      go_wp2_with (first
        | (refine wpList_load_row rfl _ _ rfl _ rfl _ (tabAt 16) (0, 0) _ hb Try.underlying92 rfl rfl ?_)
        | (go_at_call 43; refine (HC.out ()).mono ?_; rintro e w2 ⟨rfl, m2⟩; have M2 := Lib.hid m2; clear m2))
      exact ⟨⟨j + 1, _, by omega, by go_num, HX.out.symm, rfl, HB.out.mods M2.out (fun h => h), HM.out.trans M2.out⟩, by simp [intOf]; omega⟩
    · obtain rfl : j = n := by omega
      have HE := Lib.hid (show q = crc 4294967295 (flat l) by rw [hq, ← HN.out, List.take_length])
      clear hq
      go_wp2_with fail
      go_ret
      refine ⟨?_, hm⟩
      show Ending.returned (.int .u32 (bits .xor .u32 IntKind.u32.max (q : Int))) = _
      rw [not_u32 q (by rw [HE.out]; exact crc_lt (by omega) _), HE.out]
      rfl
end Go.Proofs.Ytncmmiecfkfcgaa
