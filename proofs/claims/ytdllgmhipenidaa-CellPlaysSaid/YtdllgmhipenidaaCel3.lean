/- Package cell: a turn's number; the next one; a block's bytes. -/
import Derived.Test.YtdllgmhipenidaaCel2
import Derived.Laws.BitsAllLaws
namespace Go.Proofs.Ytdllgmhipenidaa
set_option maxRecDepth 100000
open Go.RowKit
set_option linter.unusedVariables false

theorem index_turn (W : World) (l : List UInt8) (h : l.length = 8) (i : Nat) (hi : i < 8) : (Instr.index 144 (.agg (bts l).toArray) (.int .i64 (i : Int))).run Try.prog W = .ok (.int .u8 ((l.getD i 0).toNat : Int)) W := by
  have hu := Try.underlying144
  have e : (bts l).toArray[i]? = some (.int .u8 ((l.getD i 0).toNat : Int)) := by
    have := bts_get l i (by omega)
    simp only [List.getElem?_toArray]
    rw [this]
    simp [List.getD_eq_getElem?_getD, show i < l.length by omega]
  simp only [List.getElem?_toArray] at e
  simp [Instr.index, run_underlying hu, asIntOf, go_sem, hi, e]
theorem num8_take (l : List UInt8) (i : Nat) (h : i < l.length) : num8 (l.take (i + 1)) = num8 (l.take i) * 256 + (l.getD i 0).toNat := by
  rw [List.take_succ_eq_append_getElem h, num8_append]
  simp [num8, List.getD_eq_getElem?_getD, h]
theorem or_u64 (a n b : Nat) (hb : b < 2 ^ n) (h : a * 2 ^ n + b < 18446744073709551616) : bits .or .u64 ((a * 2 ^ n : Nat) : Int) (b : Int) = ((a * 2 ^ n + b : Nat) : Int) := by
  have e := Nat.two_pow_add_eq_or_of_lt hb a
  rw [Nat.mul_comm] at e
  rw [u64_or_nat _ _ (by omega) (by omega), e]
theorem cnumber_any (w : World) {x : Nat} (hx : x < 18446744073709551616) : Calls Try.prog 101 #[.agg (bts (eight x)).toArray] w fun e w' => e = .returned (.int .u64 (x : Int)) ∧ Mods Nil w w' := by
  obtain ⟨W0, hW0⟩ : ∃ W, w.alloc (.cells (bts (eight x)).toArray 144) = W := ⟨_, rfl⟩
  have HM : Hid (Mods Nil w W0) := by rw [← hW0]; exact (Mods.refl Nil w).alloc _
  have B0 : Hid (Blk W0 w.heap.size 144 (bts (eight x)).toArray) := by rw [← hW0]; exact Lib.hid (Blk.new w 144 (bts (eight x)).toArray)
  have HX := Lib.hid hx
  clear hx
  go_enter Try.func101, Try.ntmps101
  go_wp2_with (first
    | (refine gw_load_mid (by rfl) 144 _ rfl w.heap.size 0 rfl (bts (eight x)) _ (blkL_range B0.out) Try.underlying144 rfl (infoCTl x) ?_))
  go_loopw [3, 7] (fun a k wr => ∃ (i : Nat), i ≤ 8 ∧ k = .int .i64 (i : Int) ∧ a = .int .u64 (num8 ((eight x).take i) : Int) ∧ wr = W0) (fun _ k _ => 8 - (intOf k).toNat)
  case atStart => exact ⟨0, Nat.zero_le _, rfl, rfl, rfl⟩
  case round =>
    obtain ⟨i, hi, rfl, rfl, rfl⟩ := hrel
    by_cases hlt : i < 8
    · have hltI : (i : Int) < 8 := by omega
      have hix := fun W => index_turn W (eight x) (eight_length x) i hlt
      have hs := num8_take (eight x) i (by rw [eight_length]; exact hlt)
      have hb := ((eight x).getD i 0).toNat_lt
      have hv : num8 ((eight x).take i) * 256 + ((eight x).getD i 0).toNat < 18446744073709551616 := by
        rw [← hs]
        have h1 := num8_lt ((eight x).take (i + 1))
        have h2 : 256 ^ ((eight x).take (i + 1)).length ≤ 256 ^ 8 := Nat.pow_le_pow_right (by omega) (by rw [List.length_take]; rw [eight_length]; omega)
        have h3 : (256 : Nat) ^ 8 = 18446744073709551616 := by rfl
        omega
      obtain ⟨y, hy⟩ : ∃ y, ((eight x).getD i 0).toNat = y := ⟨_, rfl⟩
      obtain ⟨z, hz⟩ : ∃ z, num8 ((eight x).take i) = z := ⟨_, rfl⟩
      obtain ⟨q, hq⟩ : ∃ q, num8 ((eight x).take (i + 1)) = q := ⟨_, rfl⟩
      rw [hq, hy, hz] at hs
      rw [hy, hz] at hv
      rw [hy] at hix hb
      have ho := or_u64 z 8 y (by omega) (by omega)
      rw [show z * 2 ^ 8 = z * 256 by rfl, ← hs] at ho
      have ho' : bits .or .u64 ((z : Int) * 256) (y : Int) = (q : Int) := by simpa using ho
      have hw1 : IntKind.u64.wrap ((z : Int) * 256) = (z : Int) * 256 := by rw [IntKind.wrap_u64]; omega
      have hw2 : IntKind.u64.wrap (y : Int) = (y : Int) := by rw [IntKind.wrap_u64]; omega
      rw [hz]
      have HQ := Lib.hid hq
      clear hs hb hv hy hz hq ho
      go_wp2_with fail
      exact ⟨⟨i + 1, by omega, by go_num, by rw [HQ.out], trivial⟩, by simp [intOf]; omega⟩
    · obtain rfl : i = 8 := by omega
      go_wp2_with fail
      go_ret
      rw [List.take_of_length_le (by rw [eight_length]; omega), num8_eight HX.out]
      exact ⟨rfl, HM.out⟩
end Go.Proofs.Ytdllgmhipenidaa
