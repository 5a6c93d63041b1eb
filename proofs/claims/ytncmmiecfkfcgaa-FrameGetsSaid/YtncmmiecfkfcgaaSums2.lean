/- Package sums: the table. -/
import Derived.Test.YtncmmiecfkfcgaaSums1
import Derived.Laws.Rows
namespace Go.Proofs.Ytncmmiecfkfcgaa
open Go.RowKit
set_option linter.unusedVariables false

/-- The table as far as it is made. -/
def tabAt (k : Nat) : Array Value := Array.ofFn (n := 16) fun i => if i.val < k then .int .u32 ((bitN 4 i.val : Nat) : Int) else .int .u32 0
theorem tabAt_size (k : Nat) : (tabAt k).size = 16 := by simp [tabAt]
theorem tabAt_zero : tabAt 0 = #[.int .u32 0, .int .u32 0, .int .u32 0, .int .u32 0, .int .u32 0, .int .u32 0, .int .u32 0, .int .u32 0, .int .u32 0, .int .u32 0, .int .u32 0, .int .u32 0, .int .u32 0, .int .u32 0, .int .u32 0, .int .u32 0] := by rfl
theorem tabAt_get (i : Nat) (h : i < 16) : (tabAt 16)[i]? = some (.int .u32 ((bitN 4 i : Nat) : Int)) := by
  simp [tabAt, h]
theorem tabAt_set (k : Nat) (h : k < 16) : (tabAt k).setIfInBounds k (.int .u32 ((bitN 4 k : Nat) : Int)) = tabAt (k + 1) := by
  apply Array.ext
  · simp [tabAt]
  · intro i h1 h2
    rw [Array.getElem_setIfInBounds]
    · by_cases hk : k = i
      · subst hk; simp [tabAt]
      · rw [if_neg hk]
        simp only [tabAt, Array.getElem_ofFn]
        by_cases hi : i < k
        · rw [if_pos hi, if_pos (by omega)]
        · rw [if_neg hi, if_neg (by omega)]
    · simpa [tabAt] using h1
theorem tabAt_one (k : Nat) : (tabAt k).all (·.oneCell') = true := by
  rw [Array.all_eq_true]
  intro i h
  simp only [tabAt, Array.getElem_ofFn]
  split <;> rfl
theorem bitN_snoc (n x : Nat) : bitN (n + 1) x = bit1 (bitN n x) := by rw [bitN_add]; rfl

theorem tabAt_next (k : Nat) (h : k < 16) : (tabAt k)[k]? = some (.int .u32 0) := by simp [tabAt, h]

set_option maxHeartbeats 1600000 in
theorem newTable_any (w : World) : Calls Try.prog 42 #[] w fun e w' => e = .returned (.agg (tabAt 16)) ∧ Mods Nil w w' := by
  go_enter Try.func42, Try.ntmps42
  go_wp2_with fail
  go_loopw [4] (fun i wr => ∃ k : Nat, k ≤ 16 ∧ i = .int .i64 k ∧ Blk wr (w.heap.size + 1) 92 (tabAt k) ∧ Blk wr w.heap.size 92 (tabAt 0) ∧ Mods Nil w wr) (fun i _ => 16 - (intOf i).toNat)
  case atStart =>
    refine ⟨0, by omega, rfl, ?_, ?_, ((Mods.refl _ _).alloc _).alloc _⟩
    · have := Blk.new (w.alloc (.cells (tabAt 0) 92)) 92 (tabAt 0)
      rw [tabAt_zero] at this ⊢
      simpa using this
    · have := (Blk.new w 92 (tabAt 0)).alloc (.cells (tabAt 0) 92)
      rw [tabAt_zero] at this ⊢
      exact this
  case round =>
    obtain ⟨k, hk, rfl, hb, hb0, hmo⟩ := hrel
    by_cases hlt : k < 16
    · have hc : wr.cell? ⟨w.heap.size + 1, k, none⟩ = some (.int .u32 0) := by rw [hb.cell k]; exact tabAt_next k hlt
      have hf := hb.frozen k
      have HB := Lib.hid hb
      have HB0 := Lib.hid hb0
      have HM := Lib.hid hmo
      clear hb hb0 hmo
      have hltI : (k : Int) < 16 := by omega
      have hkw : (k : Int) % 4294967296 = k := by omega
      go_wp2_with fail
      go_loop [3, 9] (fun x i => ∃ j : Nat, j ≤ 4 ∧ i = .int .i64 j ∧ x = .int .u32 (bitN j k : Nat)) (fun _ i => 4 - (intOf i).toNat)
      case atStart => exact ⟨0, by omega, rfl, rfl⟩
      case round =>
        obtain ⟨j, hj, rfl, rfl⟩ := hrel
        by_cases hl : j < 4
        · have HL := Lib.hid (bitN_lt j (x := k) (by omega))
          have hlI : (j : Int) < 4 := by omega
          go_wp2_with (first | (go_at_call 44; refine (bitMore_any _ HL.out _).mono ?_; rintro e w1 ⟨rfl, rfl⟩))
          exact ⟨⟨j + 1, by omega, by go_num, by rw [bitN_snoc]⟩, by simp [intOf]; omega⟩
        · obtain rfl : j = 4 := by omega
          go_wp2_with fail
          refine ⟨⟨k + 1, by omega, by go_num, ?_, HB0.out.far (by simp) _, HM.out.setCell (fun h => by simp at h; omega) _⟩, by simp [intOf]; omega⟩
          have := HB.out.set_ k (.int .u32 (bitN 4 k : Nat))
          rw [tabAt_set k hlt] at this
          exact this
    · obtain rfl : k = 16 := by omega
      have hst := run_storeCells_blk (P := Try.prog) hb0 (new := tabAt 16) (by rw [tabAt_size, tabAt_size]) (tabAt_one 16)
      go_wp2_with (first | refine wpList_load_row rfl _ _ rfl _ rfl _ (tabAt 16) (0, 0) _ hb Try.underlying92 rfl rfl ?_)
      refine bodyPost_ret (v := .agg (tabAt 16)) (results_cell_row rfl _ _ w.heap.size _ (tabAt 16) (0, 0) _ rfl (hb0.setRow (tabAt 16)) Try.underlying92 rfl rfl) rfl ⟨rfl, ?_⟩
      exact hmo.setRow (fun h => by omega) _
end Go.Proofs.Ytncmmiecfkfcgaa
