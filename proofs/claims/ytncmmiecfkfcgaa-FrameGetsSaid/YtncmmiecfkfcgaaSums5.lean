/- Package sums: four bytes put behind a row; what is sealed; what is right. -/
import Derived.Test.YtncmmiecfkfcgaaSums4
import Derived.Deep.QuietTactic
import Derived.BigQuiet
namespace Go.Proofs.Ytncmmiecfkfcgaa
open Go.RowKit
set_option linter.unusedVariables false

theorem bts_fourOf (x : Nat) (hx : x < 4294967296) : [Value.int .u8 ((x : Int) / 16777216), .int .u8 ((x : Int) / 65536 % 256), .int .u8 ((x : Int) / 256 % 256), .int .u8 ((x : Int) % 256)] = bts (fourOf x) := by
  have e (n : Nat) : ((UInt8.ofNat n).toNat : Int) = (n : Int) % 256 := by simp
  simp only [bts, fourOf, List.map_cons, List.map_nil, e]
  rw [show ((x / 16777216 : Nat) : Int) % 256 = (x : Int) / 16777216 by omega, show ((x / 65536 : Nat) : Int) = (x : Int) / 65536 by omega, show ((x / 256 : Nat) : Int) = (x : Int) / 256 by omega]
theorem fourOf_length (x : Nat) : (fourOf x).length = 4 := rfl

set_option maxHeartbeats 1600000 in
theorem put_any {w : World} {base n : Nat} {v : Value} {xs : List UInt8} (hown : w.ownsRow base 5 1 v n (bts xs)) (hbase : base ≤ w.heap.size) (hlim : n + 4 ≤ 140737488355328) (x : Nat) (hx : x < 4294967296) :
    Calls Try.prog 32 #[v, .int .u32 x] w fun e w' => ∃ v', e = .returned v' ∧ w'.ownsRow base 5 1 v' (n + 4) (bts (xs ++ fourOf x)) ∧ w.grownBy w' v.ownBlock ∧ (∀ k, v'.ownBlock = some k → v.ownBlock = some k ∨ w.heap.size ≤ k) := by
  obtain ⟨i0, hi, hz0, hz1, hz2⟩ := info_parts infoByte
  have HO : Hid (∀ o, (w.alloc o).ownsRow base 5 1 v n (bts xs)) := Lib.hid (fun o => own_mods hown (S := Nil) ((Mods.refl _ _).alloc o) (fun _ _ h => h))
  have HS : Hid (∀ cs : Array Value, cs.toList = bts (fourOf x) → Sl (w.alloc (.cells cs 5)) (some ⟨w.heap.size, 0, none⟩) 4 (bts (fourOf x))) := Lib.hid (fun cs h => by
    have hz : cs.size = 4 := by rw [← Array.length_toList, h]; rfl
    have := build_sl w cs 5 (0, 0) (by rw [hz]; unfold maxLen; omega)
    rw [hz, h] at this
    exact this)
  have HF := Lib.hid (bts_fourOf x hx)
  have HG : Hid (∀ o w1, (w.alloc o).grownBy w1 v.ownBlock → w.grownBy w1 v.ownBlock) := Lib.hid (fun o w1 h => ⟨h.os, h.tape, h.output, Nat.le_trans (by simp) h.size, fun k hk hn => (h.block k (by simp; omega) hn).trans (Below.heap_alloc _ _ _ hk)⟩)
  clear hown
  go_enter Try.func32, Try.ntmps32
  go_wp2_with (first | (at_builtin; refine wpList_append_sl _ rfl _ _ 22 rfl base 5 i0 (.int .u8 0) 1 Try.underlying22 hi hz0 hz1 hz2 rfl v n (bts xs) rfl (HO.out _) (some ⟨w.heap.size, 0, none⟩) 4 4 (bts (fourOf x)) rfl (by simp [fourOf]) (HS.out _ HF.out) (bts_one _) (by omega) (by unfold maxLen; omega) (Nat.le_trans hbase (by simp)) ?_; intro v' w1 hown hgrow hblk; have HO1 := Lib.hid hown; have HG1 := Lib.hid (HG.out _ _ hgrow); have HB1 := Lib.hid hblk; clear hown hgrow hblk))
  go_ret
  exact ⟨v', rfl, by rw [bts_append]; exact HO1.out, HG1.out, fun k hk => (HB1.out k hk).imp_right (fun h => by simp at h; omega)⟩
end Go.Proofs.Ytncmmiecfkfcgaa
