/- The walk of notcherlaw10.ConfOps (printed by wip/tools/gen10/genops.py). -/
import Derived.Test.YtcncgjiaefjmhaaLawM10
namespace Go.Proofs.Ytcncgjiaefjmhaa
set_option maxRecDepth 1000000
open Go.RowKit
set_option linter.unusedVariables false
set_option linter.unusedSimpArgs false

theorem one_row {w : World} (t : TypeId) {g : Nat} (hg : g = w.heap.size) : Rws ((w.alloc (.cells #[.int .u64 1] t)).alloc (.cells #[.int .i64 0, .slice (some ⟨g, 0, none⟩) 1 1] 50)) (some ⟨g + 1, 0, none⟩) 1 1 [⟨0, some ⟨g, 0, none⟩, 1, [1]⟩] := by
  subst hg
  have hs : Sl (w.alloc (.cells #[.int .u64 1] t)) (some ⟨w.heap.size, 0, none⟩) 1 (nums [1]) := one_sl _ _ _
  have hs2 := hs.alloc (.cells #[.int .i64 0, .slice (some ⟨w.heap.size, 0, none⟩) 1 1] 50)
  have hO : OwnR 50 (w.heap.size + 1) ((w.alloc (.cells #[.int .u64 1] t)).alloc (.cells #[.int .i64 0, .slice (some ⟨w.heap.size, 0, none⟩) 1 1] 50)) (.slice (some ⟨w.heap.size + 1, 0, none⟩) 1 1) [⟨0, some ⟨w.heap.size, 0, none⟩, 1, [1]⟩] := by
    refine ⟨⟨rfl, .inr ⟨w.heap.size + 1, 1, #[.int .i64 0, .slice (some ⟨w.heap.size, 0, none⟩) 1 1], rfl, Nat.le_refl _, ?_, Nat.le_refl _, by unfold maxLen; omega, rfl, rfl⟩⟩, ?_, ?_, ?_, ?_⟩
    · have := Blk.new (w.alloc (.cells #[.int .u64 1] t)) 50 #[.int .i64 0, .slice (some ⟨w.heap.size, 0, none⟩) 1 1]
      rw [World.size_alloc] at this
      exact this
    · intro q hq; rw [List.mem_singleton.1 hq]; exact hs2
    · intro q hq; rw [List.mem_singleton.1 hq]; simp
    · intro q hq; rw [List.mem_singleton.1 hq]; simp
    · intro q hq; rw [List.mem_singleton.1 hq]; intro hne a ha h; injection ha with ha; subst ha; simp [Value.ownBlock] at h
  obtain ⟨A, c, e, hr, -⟩ := hO.rws
  injection e with e1 e2 e3
  subst e1; subst e3
  exact hr
theorem ok_op {op : Int} (hop : -9223372036854775808 ≤ op ∧ op ≤ 9223372036854775807) {client seq shard segs pos : Nat} (h : client < 1000 ∧ seq < 1000 ∧ shard < 1000 ∧ segs < 1000 ∧ pos < 1000) {l : List PW} (hl : ∀ r ∈ l, r.ok) (hn : l.length ≤ 1000) : (⟨op, client, seq, shard, segs, pos, l⟩ : PC).ok :=
  ⟨hop, by simp; omega, by simp; omega, by simp; omega, by simp; omega, by simp; omega, hl, by simp; omega⟩
theorem chk_other {c : PC} (h : ¬ (0 ≤ c.op ∧ c.op ≤ 4)) : chkC c = 1 := by
  unfold chkC
  rw [if_neg]
  rintro ⟨-, ho⟩
  exact h (opB_range ho)

set_option maxHeartbeats 3200000 in
theorem confOps_0_0 (w : World) (z : Int) (hz : z.tmod 6 = 0) : Calls Try.prog 6 #[.int .i64 0, .int .u8 z] w fun e w' => e = .returned (.bool true) ∧ Mods Nil w w' := by
  have hc : chkC (⟨0, 1, 0, 0, 0, 0, []⟩ : PC) = 1 := by decide
  have HCHK : Hid (∀ W, Calls Try.prog 18 #[.agg #[.int .i64 0, .int .u64 1, .int .u64 0, .int .i64 0, .int .i64 0, .int .u64 0, .slice none 0 0]] W fun e w' => e = .returned (.int .i64 1) ∧ Mods Nil W w') := Lib.hid (fun W => by have h := ccheck_any W ⟨0, 1, 0, 0, 0, 0, []⟩ (ok_op (client := 1) (seq := 0) (shard := 0) (segs := 0) (pos := 0) (by omega) (by omega) (by simp) (by simp)) rfl (Rws.nil W); rw [hc] at h; exact h)
  clear hc
  go_enter Try.func6, Try.ntmps6
  go_wp2_with (first
    | (go_at_call 10; refine (awake10_any _).mono ?_; rintro e w1 ⟨rfl, m1⟩; have M1 := Lib.hid m1; clear m1)
    | (go_at_call 18; refine (HCHK.out _).mono ?_; rintro e w2 ⟨rfl, m2⟩; have M2 := Lib.hid ((M1.out.alloc _).trans m2); clear m2))
  go_ret
  exact ⟨rfl, M2.out⟩
set_option maxHeartbeats 3200000 in
theorem confOps_0_1 (w : World) (z : Int) (hz : z.tmod 6 = 1) : Calls Try.prog 6 #[.int .i64 0, .int .u8 z] w fun e w' => e = .returned (.bool true) ∧ Mods Nil w w' := by
  have hc : chkC (⟨0, 0, 1, 0, 0, 0, []⟩ : PC) = 1 := by decide
  have HCHK : Hid (∀ W, Calls Try.prog 18 #[.agg #[.int .i64 0, .int .u64 0, .int .u64 1, .int .i64 0, .int .i64 0, .int .u64 0, .slice none 0 0]] W fun e w' => e = .returned (.int .i64 1) ∧ Mods Nil W w') := Lib.hid (fun W => by have h := ccheck_any W ⟨0, 0, 1, 0, 0, 0, []⟩ (ok_op (client := 0) (seq := 1) (shard := 0) (segs := 0) (pos := 0) (by omega) (by omega) (by simp) (by simp)) rfl (Rws.nil W); rw [hc] at h; exact h)
  clear hc
  go_enter Try.func6, Try.ntmps6
  go_wp2_with (first
    | (go_at_call 10; refine (awake10_any _).mono ?_; rintro e w1 ⟨rfl, m1⟩; have M1 := Lib.hid m1; clear m1)
    | (go_at_call 18; refine (HCHK.out _).mono ?_; rintro e w2 ⟨rfl, m2⟩; have M2 := Lib.hid ((M1.out.alloc _).trans m2); clear m2))
  go_ret
  exact ⟨rfl, M2.out⟩
set_option maxHeartbeats 3200000 in
theorem confOps_0_2 (w : World) (z : Int) (hz : z.tmod 6 = 2) : Calls Try.prog 6 #[.int .i64 0, .int .u8 z] w fun e w' => e = .returned (.bool true) ∧ Mods Nil w w' := by
  have hc : chkC (⟨0, 0, 0, 1, 0, 0, []⟩ : PC) = 1 := by decide
  have HCHK : Hid (∀ W, Calls Try.prog 18 #[.agg #[.int .i64 0, .int .u64 0, .int .u64 0, .int .i64 1, .int .i64 0, .int .u64 0, .slice none 0 0]] W fun e w' => e = .returned (.int .i64 1) ∧ Mods Nil W w') := Lib.hid (fun W => by have h := ccheck_any W ⟨0, 0, 0, 1, 0, 0, []⟩ (ok_op (client := 0) (seq := 0) (shard := 1) (segs := 0) (pos := 0) (by omega) (by omega) (by simp) (by simp)) rfl (Rws.nil W); rw [hc] at h; exact h)
  clear hc
  go_enter Try.func6, Try.ntmps6
  go_wp2_with (first
    | (go_at_call 10; refine (awake10_any _).mono ?_; rintro e w1 ⟨rfl, m1⟩; have M1 := Lib.hid m1; clear m1)
    | (go_at_call 18; refine (HCHK.out _).mono ?_; rintro e w2 ⟨rfl, m2⟩; have M2 := Lib.hid ((M1.out.alloc _).trans m2); clear m2))
  go_ret
  exact ⟨rfl, M2.out⟩
set_option maxHeartbeats 3200000 in
theorem confOps_0_3 (w : World) (z : Int) (hz : z.tmod 6 = 3) : Calls Try.prog 6 #[.int .i64 0, .int .u8 z] w fun e w' => e = .returned (.bool true) ∧ Mods Nil w w' := by
  have hc : chkC (⟨0, 0, 0, 0, 1, 0, []⟩ : PC) = 1 := by decide
  have HCHK : Hid (∀ W, Calls Try.prog 18 #[.agg #[.int .i64 0, .int .u64 0, .int .u64 0, .int .i64 0, .int .i64 1, .int .u64 0, .slice none 0 0]] W fun e w' => e = .returned (.int .i64 1) ∧ Mods Nil W w') := Lib.hid (fun W => by have h := ccheck_any W ⟨0, 0, 0, 0, 1, 0, []⟩ (ok_op (client := 0) (seq := 0) (shard := 0) (segs := 1) (pos := 0) (by omega) (by omega) (by simp) (by simp)) rfl (Rws.nil W); rw [hc] at h; exact h)
  clear hc
  go_enter Try.func6, Try.ntmps6
  go_wp2_with (first
    | (go_at_call 10; refine (awake10_any _).mono ?_; rintro e w1 ⟨rfl, m1⟩; have M1 := Lib.hid m1; clear m1)
    | (go_at_call 18; refine (HCHK.out _).mono ?_; rintro e w2 ⟨rfl, m2⟩; have M2 := Lib.hid ((M1.out.alloc _).trans m2); clear m2))
  go_ret
  exact ⟨rfl, M2.out⟩
set_option maxHeartbeats 3200000 in
theorem confOps_0_4 (w : World) (z : Int) (hz : z.tmod 6 = 4) : Calls Try.prog 6 #[.int .i64 0, .int .u8 z] w fun e w' => e = .returned (.bool true) ∧ Mods Nil w w' := by
  have hc : chkC (⟨0, 0, 0, 0, 0, 1, []⟩ : PC) = 1 := by decide
  have HCHK : Hid (∀ W, Calls Try.prog 18 #[.agg #[.int .i64 0, .int .u64 0, .int .u64 0, .int .i64 0, .int .i64 0, .int .u64 1, .slice none 0 0]] W fun e w' => e = .returned (.int .i64 1) ∧ Mods Nil W w') := Lib.hid (fun W => by have h := ccheck_any W ⟨0, 0, 0, 0, 0, 1, []⟩ (ok_op (client := 0) (seq := 0) (shard := 0) (segs := 0) (pos := 1) (by omega) (by omega) (by simp) (by simp)) rfl (Rws.nil W); rw [hc] at h; exact h)
  clear hc
  go_enter Try.func6, Try.ntmps6
  go_wp2_with (first
    | (go_at_call 10; refine (awake10_any _).mono ?_; rintro e w1 ⟨rfl, m1⟩; have M1 := Lib.hid m1; clear m1)
    | (go_at_call 18; refine (HCHK.out _).mono ?_; rintro e w2 ⟨rfl, m2⟩; have M2 := Lib.hid ((M1.out.alloc _).trans m2); clear m2))
  go_ret
  exact ⟨rfl, M2.out⟩
set_option maxHeartbeats 3200000 in
theorem confOps_0_5 (w : World) (z : Int) (hz : z.tmod 6 = 5) : Calls Try.prog 6 #[.int .i64 0, .int .u8 z] w fun e w' => e = .returned (.bool true) ∧ Mods Nil w w' := by
  have hc : chkC (⟨0, 0, 0, 0, 0, 0, [⟨0, [1]⟩]⟩ : PC) = 1 := by decide
  have HCHK : Hid (∀ W A n k L, [⟨0, [1]⟩] = pws L → Rws W A n k L → Calls Try.prog 18 #[.agg #[.int .i64 0, .int .u64 0, .int .u64 0, .int .i64 0, .int .i64 0, .int .u64 0, .slice A n k]] W fun e w' => e = .returned (.int .i64 1) ∧ Mods Nil W w') := Lib.hid (fun W A n k L hr h => by have h2 := ccheck_any W ⟨0, 0, 0, 0, 0, 0, [⟨0, [1]⟩]⟩ (ok_op (client := 0) (seq := 0) (shard := 0) (segs := 0) (pos := 0) (by omega) (by omega) (by intro r hr; rw [List.mem_singleton.1 hr]; exact ⟨by simp, by simp, by simp⟩) (by simp)) hr h; rw [hc] at h2; exact h2)
  clear hc
  go_enter Try.func6, Try.ntmps6
  go_wp2_with (first
    | (go_at_call 10; refine (awake10_any _).mono ?_; rintro e w1 ⟨rfl, m1⟩; have M1 := Lib.hid m1; clear m1; have R5 := Lib.hid (one_row (w := w1.alloc (.cells #[.int .i64 0, .int .u64 0, .int .u64 0, .int .i64 0, .int .i64 0, .int .u64 0, .slice (some ⟨w1.heap.size + 1 + 1, 0, none⟩) 1 1] 27)) 24 (g := w1.heap.size + 1) (by simp)))
    | (go_at_call 18; refine (HCHK.out _ _ _ _ _ rfl (R5.out)).mono ?_; rintro e w2 ⟨rfl, m2⟩; have M2 := Lib.hid ((((M1.out.alloc _).alloc _).alloc _).trans m2); clear m2))
  go_ret
  exact ⟨rfl, M2.out⟩
set_option maxHeartbeats 3200000 in
theorem confOps_1_0 (w : World) (z : Int) (hz : z.tmod 6 = 0) : Calls Try.prog 6 #[.int .i64 1, .int .u8 z] w fun e w' => e = .returned (.bool true) ∧ Mods Nil w w' := by
  have hc : chkC (⟨1, 1, 0, 0, 2, 0, []⟩ : PC) = 0 := by decide
  have HCHK : Hid (∀ W, Calls Try.prog 18 #[.agg #[.int .i64 1, .int .u64 1, .int .u64 0, .int .i64 0, .int .i64 2, .int .u64 0, .slice none 0 0]] W fun e w' => e = .returned (.int .i64 0) ∧ Mods Nil W w') := Lib.hid (fun W => by have h := ccheck_any W ⟨1, 1, 0, 0, 2, 0, []⟩ (ok_op (client := 1) (seq := 0) (shard := 0) (segs := 2) (pos := 0) (by omega) (by omega) (by simp) (by simp)) rfl (Rws.nil W); rw [hc] at h; exact h)
  clear hc
  go_enter Try.func6, Try.ntmps6
  go_wp2_with (first
    | (go_at_call 10; refine (awake10_any _).mono ?_; rintro e w1 ⟨rfl, m1⟩; have M1 := Lib.hid m1; clear m1)
    | (go_at_call 18; refine (HCHK.out _).mono ?_; rintro e w2 ⟨rfl, m2⟩; have M2 := Lib.hid ((M1.out.alloc _).trans m2); clear m2))
  go_ret
  exact ⟨rfl, M2.out⟩
set_option maxHeartbeats 3200000 in
theorem confOps_1_1 (w : World) (z : Int) (hz : z.tmod 6 = 1) : Calls Try.prog 6 #[.int .i64 1, .int .u8 z] w fun e w' => e = .returned (.bool true) ∧ Mods Nil w w' := by
  have hc : chkC (⟨1, 0, 1, 0, 2, 0, []⟩ : PC) = 0 := by decide
  have HCHK : Hid (∀ W, Calls Try.prog 18 #[.agg #[.int .i64 1, .int .u64 0, .int .u64 1, .int .i64 0, .int .i64 2, .int .u64 0, .slice none 0 0]] W fun e w' => e = .returned (.int .i64 0) ∧ Mods Nil W w') := Lib.hid (fun W => by have h := ccheck_any W ⟨1, 0, 1, 0, 2, 0, []⟩ (ok_op (client := 0) (seq := 1) (shard := 0) (segs := 2) (pos := 0) (by omega) (by omega) (by simp) (by simp)) rfl (Rws.nil W); rw [hc] at h; exact h)
  clear hc
  go_enter Try.func6, Try.ntmps6
  go_wp2_with (first
    | (go_at_call 10; refine (awake10_any _).mono ?_; rintro e w1 ⟨rfl, m1⟩; have M1 := Lib.hid m1; clear m1)
    | (go_at_call 18; refine (HCHK.out _).mono ?_; rintro e w2 ⟨rfl, m2⟩; have M2 := Lib.hid ((M1.out.alloc _).trans m2); clear m2))
  go_ret
  exact ⟨rfl, M2.out⟩
set_option maxHeartbeats 3200000 in
theorem confOps_1_2 (w : World) (z : Int) (hz : z.tmod 6 = 2) : Calls Try.prog 6 #[.int .i64 1, .int .u8 z] w fun e w' => e = .returned (.bool true) ∧ Mods Nil w w' := by
  have hc : chkC (⟨1, 0, 0, 1, 2, 0, []⟩ : PC) = 0 := by decide
  have HCHK : Hid (∀ W, Calls Try.prog 18 #[.agg #[.int .i64 1, .int .u64 0, .int .u64 0, .int .i64 1, .int .i64 2, .int .u64 0, .slice none 0 0]] W fun e w' => e = .returned (.int .i64 0) ∧ Mods Nil W w') := Lib.hid (fun W => by have h := ccheck_any W ⟨1, 0, 0, 1, 2, 0, []⟩ (ok_op (client := 0) (seq := 0) (shard := 1) (segs := 2) (pos := 0) (by omega) (by omega) (by simp) (by simp)) rfl (Rws.nil W); rw [hc] at h; exact h)
  clear hc
  go_enter Try.func6, Try.ntmps6
  go_wp2_with (first
    | (go_at_call 10; refine (awake10_any _).mono ?_; rintro e w1 ⟨rfl, m1⟩; have M1 := Lib.hid m1; clear m1)
    | (go_at_call 18; refine (HCHK.out _).mono ?_; rintro e w2 ⟨rfl, m2⟩; have M2 := Lib.hid ((M1.out.alloc _).trans m2); clear m2))
  go_ret
  exact ⟨rfl, M2.out⟩
set_option maxHeartbeats 3200000 in
theorem confOps_1_3 (w : World) (z : Int) (hz : z.tmod 6 = 3) : Calls Try.prog 6 #[.int .i64 1, .int .u8 z] w fun e w' => e = .returned (.bool true) ∧ Mods Nil w w' := by
  have hc : chkC (⟨1, 0, 0, 0, 1, 0, []⟩ : PC) = 0 := by decide
  have HCHK : Hid (∀ W, Calls Try.prog 18 #[.agg #[.int .i64 1, .int .u64 0, .int .u64 0, .int .i64 0, .int .i64 1, .int .u64 0, .slice none 0 0]] W fun e w' => e = .returned (.int .i64 0) ∧ Mods Nil W w') := Lib.hid (fun W => by have h := ccheck_any W ⟨1, 0, 0, 0, 1, 0, []⟩ (ok_op (client := 0) (seq := 0) (shard := 0) (segs := 1) (pos := 0) (by omega) (by omega) (by simp) (by simp)) rfl (Rws.nil W); rw [hc] at h; exact h)
  clear hc
  go_enter Try.func6, Try.ntmps6
  go_wp2_with (first
    | (go_at_call 10; refine (awake10_any _).mono ?_; rintro e w1 ⟨rfl, m1⟩; have M1 := Lib.hid m1; clear m1)
    | (go_at_call 18; refine (HCHK.out _).mono ?_; rintro e w2 ⟨rfl, m2⟩; have M2 := Lib.hid ((M1.out.alloc _).trans m2); clear m2))
  go_ret
  exact ⟨rfl, M2.out⟩
set_option maxHeartbeats 3200000 in
theorem confOps_1_4 (w : World) (z : Int) (hz : z.tmod 6 = 4) : Calls Try.prog 6 #[.int .i64 1, .int .u8 z] w fun e w' => e = .returned (.bool true) ∧ Mods Nil w w' := by
  have hc : chkC (⟨1, 0, 0, 0, 2, 1, []⟩ : PC) = 1 := by decide
  have HCHK : Hid (∀ W, Calls Try.prog 18 #[.agg #[.int .i64 1, .int .u64 0, .int .u64 0, .int .i64 0, .int .i64 2, .int .u64 1, .slice none 0 0]] W fun e w' => e = .returned (.int .i64 1) ∧ Mods Nil W w') := Lib.hid (fun W => by have h := ccheck_any W ⟨1, 0, 0, 0, 2, 1, []⟩ (ok_op (client := 0) (seq := 0) (shard := 0) (segs := 2) (pos := 1) (by omega) (by omega) (by simp) (by simp)) rfl (Rws.nil W); rw [hc] at h; exact h)
  clear hc
  go_enter Try.func6, Try.ntmps6
  go_wp2_with (first
    | (go_at_call 10; refine (awake10_any _).mono ?_; rintro e w1 ⟨rfl, m1⟩; have M1 := Lib.hid m1; clear m1)
    | (go_at_call 18; refine (HCHK.out _).mono ?_; rintro e w2 ⟨rfl, m2⟩; have M2 := Lib.hid ((M1.out.alloc _).trans m2); clear m2))
  go_ret
  exact ⟨rfl, M2.out⟩
set_option maxHeartbeats 3200000 in
theorem confOps_1_5 (w : World) (z : Int) (hz : z.tmod 6 = 5) : Calls Try.prog 6 #[.int .i64 1, .int .u8 z] w fun e w' => e = .returned (.bool true) ∧ Mods Nil w w' := by
  have hc : chkC (⟨1, 0, 0, 0, 2, 0, [⟨0, [1]⟩]⟩ : PC) = 1 := by decide
  have HCHK : Hid (∀ W A n k L, [⟨0, [1]⟩] = pws L → Rws W A n k L → Calls Try.prog 18 #[.agg #[.int .i64 1, .int .u64 0, .int .u64 0, .int .i64 0, .int .i64 2, .int .u64 0, .slice A n k]] W fun e w' => e = .returned (.int .i64 1) ∧ Mods Nil W w') := Lib.hid (fun W A n k L hr h => by have h2 := ccheck_any W ⟨1, 0, 0, 0, 2, 0, [⟨0, [1]⟩]⟩ (ok_op (client := 0) (seq := 0) (shard := 0) (segs := 2) (pos := 0) (by omega) (by omega) (by intro r hr; rw [List.mem_singleton.1 hr]; exact ⟨by simp, by simp, by simp⟩) (by simp)) hr h; rw [hc] at h2; exact h2)
  clear hc
  go_enter Try.func6, Try.ntmps6
  go_wp2_with (first
    | (go_at_call 10; refine (awake10_any _).mono ?_; rintro e w1 ⟨rfl, m1⟩; have M1 := Lib.hid m1; clear m1; have R5 := Lib.hid (one_row (w := w1.alloc (.cells #[.int .i64 1, .int .u64 0, .int .u64 0, .int .i64 0, .int .i64 2, .int .u64 0, .slice (some ⟨w1.heap.size + 1 + 1, 0, none⟩) 1 1] 27)) 24 (g := w1.heap.size + 1) (by simp)))
    | (go_at_call 18; refine (HCHK.out _ _ _ _ _ rfl (R5.out)).mono ?_; rintro e w2 ⟨rfl, m2⟩; have M2 := Lib.hid ((((M1.out.alloc _).alloc _).alloc _).trans m2); clear m2))
  go_ret
  exact ⟨rfl, M2.out⟩
set_option maxHeartbeats 3200000 in
theorem confOps_2_0 (w : World) (z : Int) (hz : z.tmod 6 = 0) : Calls Try.prog 6 #[.int .i64 2, .int .u8 z] w fun e w' => e = .returned (.bool true) ∧ Mods Nil w w' := by
  have hc : chkC (⟨2, 1, 0, 0, 0, 0, []⟩ : PC) = 0 := by decide
  have HCHK : Hid (∀ W, Calls Try.prog 18 #[.agg #[.int .i64 2, .int .u64 1, .int .u64 0, .int .i64 0, .int .i64 0, .int .u64 0, .slice none 0 0]] W fun e w' => e = .returned (.int .i64 0) ∧ Mods Nil W w') := Lib.hid (fun W => by have h := ccheck_any W ⟨2, 1, 0, 0, 0, 0, []⟩ (ok_op (client := 1) (seq := 0) (shard := 0) (segs := 0) (pos := 0) (by omega) (by omega) (by simp) (by simp)) rfl (Rws.nil W); rw [hc] at h; exact h)
  clear hc
  go_enter Try.func6, Try.ntmps6
  go_wp2_with (first
    | (go_at_call 10; refine (awake10_any _).mono ?_; rintro e w1 ⟨rfl, m1⟩; have M1 := Lib.hid m1; clear m1)
    | (go_at_call 18; refine (HCHK.out _).mono ?_; rintro e w2 ⟨rfl, m2⟩; have M2 := Lib.hid ((M1.out.alloc _).trans m2); clear m2))
  go_ret
  exact ⟨rfl, M2.out⟩
set_option maxHeartbeats 3200000 in
theorem confOps_2_1 (w : World) (z : Int) (hz : z.tmod 6 = 1) : Calls Try.prog 6 #[.int .i64 2, .int .u8 z] w fun e w' => e = .returned (.bool true) ∧ Mods Nil w w' := by
  have hc : chkC (⟨2, 0, 1, 0, 0, 0, []⟩ : PC) = 0 := by decide
  have HCHK : Hid (∀ W, Calls Try.prog 18 #[.agg #[.int .i64 2, .int .u64 0, .int .u64 1, .int .i64 0, .int .i64 0, .int .u64 0, .slice none 0 0]] W fun e w' => e = .returned (.int .i64 0) ∧ Mods Nil W w') := Lib.hid (fun W => by have h := ccheck_any W ⟨2, 0, 1, 0, 0, 0, []⟩ (ok_op (client := 0) (seq := 1) (shard := 0) (segs := 0) (pos := 0) (by omega) (by omega) (by simp) (by simp)) rfl (Rws.nil W); rw [hc] at h; exact h)
  clear hc
  go_enter Try.func6, Try.ntmps6
  go_wp2_with (first
    | (go_at_call 10; refine (awake10_any _).mono ?_; rintro e w1 ⟨rfl, m1⟩; have M1 := Lib.hid m1; clear m1)
    | (go_at_call 18; refine (HCHK.out _).mono ?_; rintro e w2 ⟨rfl, m2⟩; have M2 := Lib.hid ((M1.out.alloc _).trans m2); clear m2))
  go_ret
  exact ⟨rfl, M2.out⟩
set_option maxHeartbeats 3200000 in
theorem confOps_2_2 (w : World) (z : Int) (hz : z.tmod 6 = 2) : Calls Try.prog 6 #[.int .i64 2, .int .u8 z] w fun e w' => e = .returned (.bool true) ∧ Mods Nil w w' := by
  have hc : chkC (⟨2, 0, 0, 1, 0, 0, []⟩ : PC) = 0 := by decide
  have HCHK : Hid (∀ W, Calls Try.prog 18 #[.agg #[.int .i64 2, .int .u64 0, .int .u64 0, .int .i64 1, .int .i64 0, .int .u64 0, .slice none 0 0]] W fun e w' => e = .returned (.int .i64 0) ∧ Mods Nil W w') := Lib.hid (fun W => by have h := ccheck_any W ⟨2, 0, 0, 1, 0, 0, []⟩ (ok_op (client := 0) (seq := 0) (shard := 1) (segs := 0) (pos := 0) (by omega) (by omega) (by simp) (by simp)) rfl (Rws.nil W); rw [hc] at h; exact h)
  clear hc
  go_enter Try.func6, Try.ntmps6
  go_wp2_with (first
    | (go_at_call 10; refine (awake10_any _).mono ?_; rintro e w1 ⟨rfl, m1⟩; have M1 := Lib.hid m1; clear m1)
    | (go_at_call 18; refine (HCHK.out _).mono ?_; rintro e w2 ⟨rfl, m2⟩; have M2 := Lib.hid ((M1.out.alloc _).trans m2); clear m2))
  go_ret
  exact ⟨rfl, M2.out⟩
set_option maxHeartbeats 3200000 in
theorem confOps_2_3 (w : World) (z : Int) (hz : z.tmod 6 = 3) : Calls Try.prog 6 #[.int .i64 2, .int .u8 z] w fun e w' => e = .returned (.bool true) ∧ Mods Nil w w' := by
  have hc : chkC (⟨2, 0, 0, 0, 1, 0, []⟩ : PC) = 1 := by decide
  have HCHK : Hid (∀ W, Calls Try.prog 18 #[.agg #[.int .i64 2, .int .u64 0, .int .u64 0, .int .i64 0, .int .i64 1, .int .u64 0, .slice none 0 0]] W fun e w' => e = .returned (.int .i64 1) ∧ Mods Nil W w') := Lib.hid (fun W => by have h := ccheck_any W ⟨2, 0, 0, 0, 1, 0, []⟩ (ok_op (client := 0) (seq := 0) (shard := 0) (segs := 1) (pos := 0) (by omega) (by omega) (by simp) (by simp)) rfl (Rws.nil W); rw [hc] at h; exact h)
  clear hc
  go_enter Try.func6, Try.ntmps6
  go_wp2_with (first
    | (go_at_call 10; refine (awake10_any _).mono ?_; rintro e w1 ⟨rfl, m1⟩; have M1 := Lib.hid m1; clear m1)
    | (go_at_call 18; refine (HCHK.out _).mono ?_; rintro e w2 ⟨rfl, m2⟩; have M2 := Lib.hid ((M1.out.alloc _).trans m2); clear m2))
  go_ret
  exact ⟨rfl, M2.out⟩
set_option maxHeartbeats 3200000 in
theorem confOps_2_4 (w : World) (z : Int) (hz : z.tmod 6 = 4) : Calls Try.prog 6 #[.int .i64 2, .int .u8 z] w fun e w' => e = .returned (.bool true) ∧ Mods Nil w w' := by
  have hc : chkC (⟨2, 0, 0, 0, 0, 1, []⟩ : PC) = 1 := by decide
  have HCHK : Hid (∀ W, Calls Try.prog 18 #[.agg #[.int .i64 2, .int .u64 0, .int .u64 0, .int .i64 0, .int .i64 0, .int .u64 1, .slice none 0 0]] W fun e w' => e = .returned (.int .i64 1) ∧ Mods Nil W w') := Lib.hid (fun W => by have h := ccheck_any W ⟨2, 0, 0, 0, 0, 1, []⟩ (ok_op (client := 0) (seq := 0) (shard := 0) (segs := 0) (pos := 1) (by omega) (by omega) (by simp) (by simp)) rfl (Rws.nil W); rw [hc] at h; exact h)
  clear hc
  go_enter Try.func6, Try.ntmps6
  go_wp2_with (first
    | (go_at_call 10; refine (awake10_any _).mono ?_; rintro e w1 ⟨rfl, m1⟩; have M1 := Lib.hid m1; clear m1)
    | (go_at_call 18; refine (HCHK.out _).mono ?_; rintro e w2 ⟨rfl, m2⟩; have M2 := Lib.hid ((M1.out.alloc _).trans m2); clear m2))
  go_ret
  exact ⟨rfl, M2.out⟩
set_option maxHeartbeats 3200000 in
theorem confOps_2_5 (w : World) (z : Int) (hz : z.tmod 6 = 5) : Calls Try.prog 6 #[.int .i64 2, .int .u8 z] w fun e w' => e = .returned (.bool true) ∧ Mods Nil w w' := by
  have hc : chkC (⟨2, 0, 0, 0, 0, 0, [⟨0, [1]⟩]⟩ : PC) = 0 := by decide
  have HCHK : Hid (∀ W A n k L, [⟨0, [1]⟩] = pws L → Rws W A n k L → Calls Try.prog 18 #[.agg #[.int .i64 2, .int .u64 0, .int .u64 0, .int .i64 0, .int .i64 0, .int .u64 0, .slice A n k]] W fun e w' => e = .returned (.int .i64 0) ∧ Mods Nil W w') := Lib.hid (fun W A n k L hr h => by have h2 := ccheck_any W ⟨2, 0, 0, 0, 0, 0, [⟨0, [1]⟩]⟩ (ok_op (client := 0) (seq := 0) (shard := 0) (segs := 0) (pos := 0) (by omega) (by omega) (by intro r hr; rw [List.mem_singleton.1 hr]; exact ⟨by simp, by simp, by simp⟩) (by simp)) hr h; rw [hc] at h2; exact h2)
  clear hc
  go_enter Try.func6, Try.ntmps6
  go_wp2_with (first
    | (go_at_call 10; refine (awake10_any _).mono ?_; rintro e w1 ⟨rfl, m1⟩; have M1 := Lib.hid m1; clear m1; have R5 := Lib.hid (one_row (w := w1.alloc (.cells #[.int .i64 2, .int .u64 0, .int .u64 0, .int .i64 0, .int .i64 0, .int .u64 0, .slice (some ⟨w1.heap.size + 1 + 1, 0, none⟩) 1 1] 27)) 24 (g := w1.heap.size + 1) (by simp)))
    | (go_at_call 18; refine (HCHK.out _ _ _ _ _ rfl (R5.out)).mono ?_; rintro e w2 ⟨rfl, m2⟩; have M2 := Lib.hid ((((M1.out.alloc _).alloc _).alloc _).trans m2); clear m2))
  go_ret
  exact ⟨rfl, M2.out⟩
set_option maxHeartbeats 3200000 in
theorem confOps_3_0 (w : World) (z : Int) (hz : z.tmod 6 = 0) : Calls Try.prog 6 #[.int .i64 3, .int .u8 z] w fun e w' => e = .returned (.bool true) ∧ Mods Nil w w' := by
  have hc : chkC (⟨3, 1, 0, 0, 0, 0, []⟩ : PC) = 0 := by decide
  have HCHK : Hid (∀ W, Calls Try.prog 18 #[.agg #[.int .i64 3, .int .u64 1, .int .u64 0, .int .i64 0, .int .i64 0, .int .u64 0, .slice none 0 0]] W fun e w' => e = .returned (.int .i64 0) ∧ Mods Nil W w') := Lib.hid (fun W => by have h := ccheck_any W ⟨3, 1, 0, 0, 0, 0, []⟩ (ok_op (client := 1) (seq := 0) (shard := 0) (segs := 0) (pos := 0) (by omega) (by omega) (by simp) (by simp)) rfl (Rws.nil W); rw [hc] at h; exact h)
  clear hc
  go_enter Try.func6, Try.ntmps6
  go_wp2_with (first
    | (go_at_call 10; refine (awake10_any _).mono ?_; rintro e w1 ⟨rfl, m1⟩; have M1 := Lib.hid m1; clear m1)
    | (go_at_call 18; refine (HCHK.out _).mono ?_; rintro e w2 ⟨rfl, m2⟩; have M2 := Lib.hid ((M1.out.alloc _).trans m2); clear m2))
  go_ret
  exact ⟨rfl, M2.out⟩
set_option maxHeartbeats 3200000 in
theorem confOps_3_1 (w : World) (z : Int) (hz : z.tmod 6 = 1) : Calls Try.prog 6 #[.int .i64 3, .int .u8 z] w fun e w' => e = .returned (.bool true) ∧ Mods Nil w w' := by
  have hc : chkC (⟨3, 0, 1, 0, 0, 0, []⟩ : PC) = 0 := by decide
  have HCHK : Hid (∀ W, Calls Try.prog 18 #[.agg #[.int .i64 3, .int .u64 0, .int .u64 1, .int .i64 0, .int .i64 0, .int .u64 0, .slice none 0 0]] W fun e w' => e = .returned (.int .i64 0) ∧ Mods Nil W w') := Lib.hid (fun W => by have h := ccheck_any W ⟨3, 0, 1, 0, 0, 0, []⟩ (ok_op (client := 0) (seq := 1) (shard := 0) (segs := 0) (pos := 0) (by omega) (by omega) (by simp) (by simp)) rfl (Rws.nil W); rw [hc] at h; exact h)
  clear hc
  go_enter Try.func6, Try.ntmps6
  go_wp2_with (first
    | (go_at_call 10; refine (awake10_any _).mono ?_; rintro e w1 ⟨rfl, m1⟩; have M1 := Lib.hid m1; clear m1)
    | (go_at_call 18; refine (HCHK.out _).mono ?_; rintro e w2 ⟨rfl, m2⟩; have M2 := Lib.hid ((M1.out.alloc _).trans m2); clear m2))
  go_ret
  exact ⟨rfl, M2.out⟩
set_option maxHeartbeats 3200000 in
theorem confOps_3_2 (w : World) (z : Int) (hz : z.tmod 6 = 2) : Calls Try.prog 6 #[.int .i64 3, .int .u8 z] w fun e w' => e = .returned (.bool true) ∧ Mods Nil w w' := by
  have hc : chkC (⟨3, 0, 0, 1, 0, 0, []⟩ : PC) = 1 := by decide
  have HCHK : Hid (∀ W, Calls Try.prog 18 #[.agg #[.int .i64 3, .int .u64 0, .int .u64 0, .int .i64 1, .int .i64 0, .int .u64 0, .slice none 0 0]] W fun e w' => e = .returned (.int .i64 1) ∧ Mods Nil W w') := Lib.hid (fun W => by have h := ccheck_any W ⟨3, 0, 0, 1, 0, 0, []⟩ (ok_op (client := 0) (seq := 0) (shard := 1) (segs := 0) (pos := 0) (by omega) (by omega) (by simp) (by simp)) rfl (Rws.nil W); rw [hc] at h; exact h)
  clear hc
  go_enter Try.func6, Try.ntmps6
  go_wp2_with (first
    | (go_at_call 10; refine (awake10_any _).mono ?_; rintro e w1 ⟨rfl, m1⟩; have M1 := Lib.hid m1; clear m1)
    | (go_at_call 18; refine (HCHK.out _).mono ?_; rintro e w2 ⟨rfl, m2⟩; have M2 := Lib.hid ((M1.out.alloc _).trans m2); clear m2))
  go_ret
  exact ⟨rfl, M2.out⟩
set_option maxHeartbeats 3200000 in
theorem confOps_3_3 (w : World) (z : Int) (hz : z.tmod 6 = 3) : Calls Try.prog 6 #[.int .i64 3, .int .u8 z] w fun e w' => e = .returned (.bool true) ∧ Mods Nil w w' := by
  have hc : chkC (⟨3, 0, 0, 0, 1, 0, []⟩ : PC) = 1 := by decide
  have HCHK : Hid (∀ W, Calls Try.prog 18 #[.agg #[.int .i64 3, .int .u64 0, .int .u64 0, .int .i64 0, .int .i64 1, .int .u64 0, .slice none 0 0]] W fun e w' => e = .returned (.int .i64 1) ∧ Mods Nil W w') := Lib.hid (fun W => by have h := ccheck_any W ⟨3, 0, 0, 0, 1, 0, []⟩ (ok_op (client := 0) (seq := 0) (shard := 0) (segs := 1) (pos := 0) (by omega) (by omega) (by simp) (by simp)) rfl (Rws.nil W); rw [hc] at h; exact h)
  clear hc
  go_enter Try.func6, Try.ntmps6
  go_wp2_with (first
    | (go_at_call 10; refine (awake10_any _).mono ?_; rintro e w1 ⟨rfl, m1⟩; have M1 := Lib.hid m1; clear m1)
    | (go_at_call 18; refine (HCHK.out _).mono ?_; rintro e w2 ⟨rfl, m2⟩; have M2 := Lib.hid ((M1.out.alloc _).trans m2); clear m2))
  go_ret
  exact ⟨rfl, M2.out⟩
set_option maxHeartbeats 3200000 in
theorem confOps_3_4 (w : World) (z : Int) (hz : z.tmod 6 = 4) : Calls Try.prog 6 #[.int .i64 3, .int .u8 z] w fun e w' => e = .returned (.bool true) ∧ Mods Nil w w' := by
  have hc : chkC (⟨3, 0, 0, 0, 0, 1, []⟩ : PC) = 0 := by decide
  have HCHK : Hid (∀ W, Calls Try.prog 18 #[.agg #[.int .i64 3, .int .u64 0, .int .u64 0, .int .i64 0, .int .i64 0, .int .u64 1, .slice none 0 0]] W fun e w' => e = .returned (.int .i64 0) ∧ Mods Nil W w') := Lib.hid (fun W => by have h := ccheck_any W ⟨3, 0, 0, 0, 0, 1, []⟩ (ok_op (client := 0) (seq := 0) (shard := 0) (segs := 0) (pos := 1) (by omega) (by omega) (by simp) (by simp)) rfl (Rws.nil W); rw [hc] at h; exact h)
  clear hc
  go_enter Try.func6, Try.ntmps6
  go_wp2_with (first
    | (go_at_call 10; refine (awake10_any _).mono ?_; rintro e w1 ⟨rfl, m1⟩; have M1 := Lib.hid m1; clear m1)
    | (go_at_call 18; refine (HCHK.out _).mono ?_; rintro e w2 ⟨rfl, m2⟩; have M2 := Lib.hid ((M1.out.alloc _).trans m2); clear m2))
  go_ret
  exact ⟨rfl, M2.out⟩
set_option maxHeartbeats 3200000 in
theorem confOps_3_5 (w : World) (z : Int) (hz : z.tmod 6 = 5) : Calls Try.prog 6 #[.int .i64 3, .int .u8 z] w fun e w' => e = .returned (.bool true) ∧ Mods Nil w w' := by
  have hc : chkC (⟨3, 0, 0, 0, 0, 0, [⟨0, [1]⟩]⟩ : PC) = 1 := by decide
  have HCHK : Hid (∀ W A n k L, [⟨0, [1]⟩] = pws L → Rws W A n k L → Calls Try.prog 18 #[.agg #[.int .i64 3, .int .u64 0, .int .u64 0, .int .i64 0, .int .i64 0, .int .u64 0, .slice A n k]] W fun e w' => e = .returned (.int .i64 1) ∧ Mods Nil W w') := Lib.hid (fun W A n k L hr h => by have h2 := ccheck_any W ⟨3, 0, 0, 0, 0, 0, [⟨0, [1]⟩]⟩ (ok_op (client := 0) (seq := 0) (shard := 0) (segs := 0) (pos := 0) (by omega) (by omega) (by intro r hr; rw [List.mem_singleton.1 hr]; exact ⟨by simp, by simp, by simp⟩) (by simp)) hr h; rw [hc] at h2; exact h2)
  clear hc
  go_enter Try.func6, Try.ntmps6
  go_wp2_with (first
    | (go_at_call 10; refine (awake10_any _).mono ?_; rintro e w1 ⟨rfl, m1⟩; have M1 := Lib.hid m1; clear m1; have R5 := Lib.hid (one_row (w := w1.alloc (.cells #[.int .i64 3, .int .u64 0, .int .u64 0, .int .i64 0, .int .i64 0, .int .u64 0, .slice (some ⟨w1.heap.size + 1 + 1, 0, none⟩) 1 1] 27)) 24 (g := w1.heap.size + 1) (by simp)))
    | (go_at_call 18; refine (HCHK.out _ _ _ _ _ rfl (R5.out)).mono ?_; rintro e w2 ⟨rfl, m2⟩; have M2 := Lib.hid ((((M1.out.alloc _).alloc _).alloc _).trans m2); clear m2))
  go_ret
  exact ⟨rfl, M2.out⟩
set_option maxHeartbeats 3200000 in
theorem confOps_4_0 (w : World) (z : Int) (hz : z.tmod 6 = 0) : Calls Try.prog 6 #[.int .i64 4, .int .u8 z] w fun e w' => e = .returned (.bool true) ∧ Mods Nil w w' := by
  have hc : chkC (⟨4, 1, 0, 0, 0, 0, []⟩ : PC) = 1 := by decide
  have HCHK : Hid (∀ W, Calls Try.prog 18 #[.agg #[.int .i64 4, .int .u64 1, .int .u64 0, .int .i64 0, .int .i64 0, .int .u64 0, .slice none 0 0]] W fun e w' => e = .returned (.int .i64 1) ∧ Mods Nil W w') := Lib.hid (fun W => by have h := ccheck_any W ⟨4, 1, 0, 0, 0, 0, []⟩ (ok_op (client := 1) (seq := 0) (shard := 0) (segs := 0) (pos := 0) (by omega) (by omega) (by simp) (by simp)) rfl (Rws.nil W); rw [hc] at h; exact h)
  clear hc
  go_enter Try.func6, Try.ntmps6
  go_wp2_with (first
    | (go_at_call 10; refine (awake10_any _).mono ?_; rintro e w1 ⟨rfl, m1⟩; have M1 := Lib.hid m1; clear m1)
    | (go_at_call 18; refine (HCHK.out _).mono ?_; rintro e w2 ⟨rfl, m2⟩; have M2 := Lib.hid ((M1.out.alloc _).trans m2); clear m2))
  go_ret
  exact ⟨rfl, M2.out⟩
set_option maxHeartbeats 3200000 in
theorem confOps_4_1 (w : World) (z : Int) (hz : z.tmod 6 = 1) : Calls Try.prog 6 #[.int .i64 4, .int .u8 z] w fun e w' => e = .returned (.bool true) ∧ Mods Nil w w' := by
  have hc : chkC (⟨4, 0, 1, 0, 0, 0, []⟩ : PC) = 1 := by decide
  have HCHK : Hid (∀ W, Calls Try.prog 18 #[.agg #[.int .i64 4, .int .u64 0, .int .u64 1, .int .i64 0, .int .i64 0, .int .u64 0, .slice none 0 0]] W fun e w' => e = .returned (.int .i64 1) ∧ Mods Nil W w') := Lib.hid (fun W => by have h := ccheck_any W ⟨4, 0, 1, 0, 0, 0, []⟩ (ok_op (client := 0) (seq := 1) (shard := 0) (segs := 0) (pos := 0) (by omega) (by omega) (by simp) (by simp)) rfl (Rws.nil W); rw [hc] at h; exact h)
  clear hc
  go_enter Try.func6, Try.ntmps6
  go_wp2_with (first
    | (go_at_call 10; refine (awake10_any _).mono ?_; rintro e w1 ⟨rfl, m1⟩; have M1 := Lib.hid m1; clear m1)
    | (go_at_call 18; refine (HCHK.out _).mono ?_; rintro e w2 ⟨rfl, m2⟩; have M2 := Lib.hid ((M1.out.alloc _).trans m2); clear m2))
  go_ret
  exact ⟨rfl, M2.out⟩
set_option maxHeartbeats 3200000 in
theorem confOps_4_2 (w : World) (z : Int) (hz : z.tmod 6 = 2) : Calls Try.prog 6 #[.int .i64 4, .int .u8 z] w fun e w' => e = .returned (.bool true) ∧ Mods Nil w w' := by
  have hc : chkC (⟨4, 0, 0, 1, 0, 0, []⟩ : PC) = 1 := by decide
  have HCHK : Hid (∀ W, Calls Try.prog 18 #[.agg #[.int .i64 4, .int .u64 0, .int .u64 0, .int .i64 1, .int .i64 0, .int .u64 0, .slice none 0 0]] W fun e w' => e = .returned (.int .i64 1) ∧ Mods Nil W w') := Lib.hid (fun W => by have h := ccheck_any W ⟨4, 0, 0, 1, 0, 0, []⟩ (ok_op (client := 0) (seq := 0) (shard := 1) (segs := 0) (pos := 0) (by omega) (by omega) (by simp) (by simp)) rfl (Rws.nil W); rw [hc] at h; exact h)
  clear hc
  go_enter Try.func6, Try.ntmps6
  go_wp2_with (first
    | (go_at_call 10; refine (awake10_any _).mono ?_; rintro e w1 ⟨rfl, m1⟩; have M1 := Lib.hid m1; clear m1)
    | (go_at_call 18; refine (HCHK.out _).mono ?_; rintro e w2 ⟨rfl, m2⟩; have M2 := Lib.hid ((M1.out.alloc _).trans m2); clear m2))
  go_ret
  exact ⟨rfl, M2.out⟩
set_option maxHeartbeats 3200000 in
theorem confOps_4_3 (w : World) (z : Int) (hz : z.tmod 6 = 3) : Calls Try.prog 6 #[.int .i64 4, .int .u8 z] w fun e w' => e = .returned (.bool true) ∧ Mods Nil w w' := by
  have hc : chkC (⟨4, 0, 0, 0, 1, 0, []⟩ : PC) = 1 := by decide
  have HCHK : Hid (∀ W, Calls Try.prog 18 #[.agg #[.int .i64 4, .int .u64 0, .int .u64 0, .int .i64 0, .int .i64 1, .int .u64 0, .slice none 0 0]] W fun e w' => e = .returned (.int .i64 1) ∧ Mods Nil W w') := Lib.hid (fun W => by have h := ccheck_any W ⟨4, 0, 0, 0, 1, 0, []⟩ (ok_op (client := 0) (seq := 0) (shard := 0) (segs := 1) (pos := 0) (by omega) (by omega) (by simp) (by simp)) rfl (Rws.nil W); rw [hc] at h; exact h)
  clear hc
  go_enter Try.func6, Try.ntmps6
  go_wp2_with (first
    | (go_at_call 10; refine (awake10_any _).mono ?_; rintro e w1 ⟨rfl, m1⟩; have M1 := Lib.hid m1; clear m1)
    | (go_at_call 18; refine (HCHK.out _).mono ?_; rintro e w2 ⟨rfl, m2⟩; have M2 := Lib.hid ((M1.out.alloc _).trans m2); clear m2))
  go_ret
  exact ⟨rfl, M2.out⟩
set_option maxHeartbeats 3200000 in
theorem confOps_4_4 (w : World) (z : Int) (hz : z.tmod 6 = 4) : Calls Try.prog 6 #[.int .i64 4, .int .u8 z] w fun e w' => e = .returned (.bool true) ∧ Mods Nil w w' := by
  have hc : chkC (⟨4, 0, 0, 0, 0, 1, []⟩ : PC) = 1 := by decide
  have HCHK : Hid (∀ W, Calls Try.prog 18 #[.agg #[.int .i64 4, .int .u64 0, .int .u64 0, .int .i64 0, .int .i64 0, .int .u64 1, .slice none 0 0]] W fun e w' => e = .returned (.int .i64 1) ∧ Mods Nil W w') := Lib.hid (fun W => by have h := ccheck_any W ⟨4, 0, 0, 0, 0, 1, []⟩ (ok_op (client := 0) (seq := 0) (shard := 0) (segs := 0) (pos := 1) (by omega) (by omega) (by simp) (by simp)) rfl (Rws.nil W); rw [hc] at h; exact h)
  clear hc
  go_enter Try.func6, Try.ntmps6
  go_wp2_with (first
    | (go_at_call 10; refine (awake10_any _).mono ?_; rintro e w1 ⟨rfl, m1⟩; have M1 := Lib.hid m1; clear m1)
    | (go_at_call 18; refine (HCHK.out _).mono ?_; rintro e w2 ⟨rfl, m2⟩; have M2 := Lib.hid ((M1.out.alloc _).trans m2); clear m2))
  go_ret
  exact ⟨rfl, M2.out⟩
set_option maxHeartbeats 3200000 in
theorem confOps_4_5 (w : World) (z : Int) (hz : z.tmod 6 = 5) : Calls Try.prog 6 #[.int .i64 4, .int .u8 z] w fun e w' => e = .returned (.bool true) ∧ Mods Nil w w' := by
  have hc : chkC (⟨4, 0, 0, 0, 0, 0, [⟨0, [1]⟩]⟩ : PC) = 0 := by decide
  have HCHK : Hid (∀ W A n k L, [⟨0, [1]⟩] = pws L → Rws W A n k L → Calls Try.prog 18 #[.agg #[.int .i64 4, .int .u64 0, .int .u64 0, .int .i64 0, .int .i64 0, .int .u64 0, .slice A n k]] W fun e w' => e = .returned (.int .i64 0) ∧ Mods Nil W w') := Lib.hid (fun W A n k L hr h => by have h2 := ccheck_any W ⟨4, 0, 0, 0, 0, 0, [⟨0, [1]⟩]⟩ (ok_op (client := 0) (seq := 0) (shard := 0) (segs := 0) (pos := 0) (by omega) (by omega) (by intro r hr; rw [List.mem_singleton.1 hr]; exact ⟨by simp, by simp, by simp⟩) (by simp)) hr h; rw [hc] at h2; exact h2)
  clear hc
  go_enter Try.func6, Try.ntmps6
  go_wp2_with (first
    | (go_at_call 10; refine (awake10_any _).mono ?_; rintro e w1 ⟨rfl, m1⟩; have M1 := Lib.hid m1; clear m1; have R5 := Lib.hid (one_row (w := w1.alloc (.cells #[.int .i64 4, .int .u64 0, .int .u64 0, .int .i64 0, .int .i64 0, .int .u64 0, .slice (some ⟨w1.heap.size + 1 + 1, 0, none⟩) 1 1] 27)) 24 (g := w1.heap.size + 1) (by simp)))
    | (go_at_call 18; refine (HCHK.out _ _ _ _ _ rfl (R5.out)).mono ?_; rintro e w2 ⟨rfl, m2⟩; have M2 := Lib.hid ((((M1.out.alloc _).alloc _).alloc _).trans m2); clear m2))
  go_ret
  exact ⟨rfl, M2.out⟩
set_option maxHeartbeats 3200000 in
theorem confOps_x_0 (w : World) {op : Int} (hop : -9223372036854775808 ≤ op ∧ op ≤ 9223372036854775807) (hno : ¬ (0 ≤ op ∧ op ≤ 4)) (z : Int) (hz : z.tmod 6 = 0) : Calls Try.prog 6 #[.int .i64 op, .int .u8 z] w fun e w' => e = .returned (.bool true) ∧ Mods Nil w w' := by
  have hc : chkC (⟨op, 1, 0, 0, 0, 0, []⟩ : PC) = 1 := chk_other hno
  have HCHK : Hid (∀ W, Calls Try.prog 18 #[.agg #[.int .i64 op, .int .u64 1, .int .u64 0, .int .i64 0, .int .i64 0, .int .u64 0, .slice none 0 0]] W fun e w' => e = .returned (.int .i64 1) ∧ Mods Nil W w') := Lib.hid (fun W => by have h := ccheck_any W ⟨op, 1, 0, 0, 0, 0, []⟩ (ok_op (client := 1) (seq := 0) (shard := 0) (segs := 0) (pos := 0) hop (by omega) (by simp) (by simp)) rfl (Rws.nil W); rw [hc] at h; exact h)
  have e1 : (op == 1) = false := by rw [beq_eq_false_iff_ne]; omega
  have e2 : (op == 2) = false := by rw [beq_eq_false_iff_ne]; omega
  have e3 : (op == 3) = false := by rw [beq_eq_false_iff_ne]; omega
  have e4 : (op == 4) = false := by rw [beq_eq_false_iff_ne]; omega
  clear hop hno
  clear hc
  go_enter Try.func6, Try.ntmps6
  go_wp2_with (first
    | (go_at_call 10; refine (awake10_any _).mono ?_; rintro e w1 ⟨rfl, m1⟩; have M1 := Lib.hid m1; clear m1)
    | (go_at_call 18; refine (HCHK.out _).mono ?_; rintro e w2 ⟨rfl, m2⟩; have M2 := Lib.hid ((M1.out.alloc _).trans m2); clear m2))
  go_ret
  exact ⟨rfl, M2.out⟩
set_option maxHeartbeats 3200000 in
theorem confOps_x_1 (w : World) {op : Int} (hop : -9223372036854775808 ≤ op ∧ op ≤ 9223372036854775807) (hno : ¬ (0 ≤ op ∧ op ≤ 4)) (z : Int) (hz : z.tmod 6 = 1) : Calls Try.prog 6 #[.int .i64 op, .int .u8 z] w fun e w' => e = .returned (.bool true) ∧ Mods Nil w w' := by
  have hc : chkC (⟨op, 0, 1, 0, 0, 0, []⟩ : PC) = 1 := chk_other hno
  have HCHK : Hid (∀ W, Calls Try.prog 18 #[.agg #[.int .i64 op, .int .u64 0, .int .u64 1, .int .i64 0, .int .i64 0, .int .u64 0, .slice none 0 0]] W fun e w' => e = .returned (.int .i64 1) ∧ Mods Nil W w') := Lib.hid (fun W => by have h := ccheck_any W ⟨op, 0, 1, 0, 0, 0, []⟩ (ok_op (client := 0) (seq := 1) (shard := 0) (segs := 0) (pos := 0) hop (by omega) (by simp) (by simp)) rfl (Rws.nil W); rw [hc] at h; exact h)
  have e1 : (op == 1) = false := by rw [beq_eq_false_iff_ne]; omega
  have e2 : (op == 2) = false := by rw [beq_eq_false_iff_ne]; omega
  have e3 : (op == 3) = false := by rw [beq_eq_false_iff_ne]; omega
  have e4 : (op == 4) = false := by rw [beq_eq_false_iff_ne]; omega
  clear hop hno
  clear hc
  go_enter Try.func6, Try.ntmps6
  go_wp2_with (first
    | (go_at_call 10; refine (awake10_any _).mono ?_; rintro e w1 ⟨rfl, m1⟩; have M1 := Lib.hid m1; clear m1)
    | (go_at_call 18; refine (HCHK.out _).mono ?_; rintro e w2 ⟨rfl, m2⟩; have M2 := Lib.hid ((M1.out.alloc _).trans m2); clear m2))
  go_ret
  exact ⟨rfl, M2.out⟩
set_option maxHeartbeats 3200000 in
theorem confOps_x_2 (w : World) {op : Int} (hop : -9223372036854775808 ≤ op ∧ op ≤ 9223372036854775807) (hno : ¬ (0 ≤ op ∧ op ≤ 4)) (z : Int) (hz : z.tmod 6 = 2) : Calls Try.prog 6 #[.int .i64 op, .int .u8 z] w fun e w' => e = .returned (.bool true) ∧ Mods Nil w w' := by
  have hc : chkC (⟨op, 0, 0, 1, 0, 0, []⟩ : PC) = 1 := chk_other hno
  have HCHK : Hid (∀ W, Calls Try.prog 18 #[.agg #[.int .i64 op, .int .u64 0, .int .u64 0, .int .i64 1, .int .i64 0, .int .u64 0, .slice none 0 0]] W fun e w' => e = .returned (.int .i64 1) ∧ Mods Nil W w') := Lib.hid (fun W => by have h := ccheck_any W ⟨op, 0, 0, 1, 0, 0, []⟩ (ok_op (client := 0) (seq := 0) (shard := 1) (segs := 0) (pos := 0) hop (by omega) (by simp) (by simp)) rfl (Rws.nil W); rw [hc] at h; exact h)
  have e1 : (op == 1) = false := by rw [beq_eq_false_iff_ne]; omega
  have e2 : (op == 2) = false := by rw [beq_eq_false_iff_ne]; omega
  have e3 : (op == 3) = false := by rw [beq_eq_false_iff_ne]; omega
  have e4 : (op == 4) = false := by rw [beq_eq_false_iff_ne]; omega
  clear hop hno
  clear hc
  go_enter Try.func6, Try.ntmps6
  go_wp2_with (first
    | (go_at_call 10; refine (awake10_any _).mono ?_; rintro e w1 ⟨rfl, m1⟩; have M1 := Lib.hid m1; clear m1)
    | (go_at_call 18; refine (HCHK.out _).mono ?_; rintro e w2 ⟨rfl, m2⟩; have M2 := Lib.hid ((M1.out.alloc _).trans m2); clear m2))
  go_ret
  exact ⟨rfl, M2.out⟩
set_option maxHeartbeats 3200000 in
theorem confOps_x_3 (w : World) {op : Int} (hop : -9223372036854775808 ≤ op ∧ op ≤ 9223372036854775807) (hno : ¬ (0 ≤ op ∧ op ≤ 4)) (z : Int) (hz : z.tmod 6 = 3) : Calls Try.prog 6 #[.int .i64 op, .int .u8 z] w fun e w' => e = .returned (.bool true) ∧ Mods Nil w w' := by
  have hc : chkC (⟨op, 0, 0, 0, 1, 0, []⟩ : PC) = 1 := chk_other hno
  have HCHK : Hid (∀ W, Calls Try.prog 18 #[.agg #[.int .i64 op, .int .u64 0, .int .u64 0, .int .i64 0, .int .i64 1, .int .u64 0, .slice none 0 0]] W fun e w' => e = .returned (.int .i64 1) ∧ Mods Nil W w') := Lib.hid (fun W => by have h := ccheck_any W ⟨op, 0, 0, 0, 1, 0, []⟩ (ok_op (client := 0) (seq := 0) (shard := 0) (segs := 1) (pos := 0) hop (by omega) (by simp) (by simp)) rfl (Rws.nil W); rw [hc] at h; exact h)
  have e1 : (op == 1) = false := by rw [beq_eq_false_iff_ne]; omega
  have e2 : (op == 2) = false := by rw [beq_eq_false_iff_ne]; omega
  have e3 : (op == 3) = false := by rw [beq_eq_false_iff_ne]; omega
  have e4 : (op == 4) = false := by rw [beq_eq_false_iff_ne]; omega
  clear hop hno
  clear hc
  go_enter Try.func6, Try.ntmps6
  go_wp2_with (first
    | (go_at_call 10; refine (awake10_any _).mono ?_; rintro e w1 ⟨rfl, m1⟩; have M1 := Lib.hid m1; clear m1)
    | (go_at_call 18; refine (HCHK.out _).mono ?_; rintro e w2 ⟨rfl, m2⟩; have M2 := Lib.hid ((M1.out.alloc _).trans m2); clear m2))
  go_ret
  exact ⟨rfl, M2.out⟩
set_option maxHeartbeats 3200000 in
theorem confOps_x_4 (w : World) {op : Int} (hop : -9223372036854775808 ≤ op ∧ op ≤ 9223372036854775807) (hno : ¬ (0 ≤ op ∧ op ≤ 4)) (z : Int) (hz : z.tmod 6 = 4) : Calls Try.prog 6 #[.int .i64 op, .int .u8 z] w fun e w' => e = .returned (.bool true) ∧ Mods Nil w w' := by
  have hc : chkC (⟨op, 0, 0, 0, 0, 1, []⟩ : PC) = 1 := chk_other hno
  have HCHK : Hid (∀ W, Calls Try.prog 18 #[.agg #[.int .i64 op, .int .u64 0, .int .u64 0, .int .i64 0, .int .i64 0, .int .u64 1, .slice none 0 0]] W fun e w' => e = .returned (.int .i64 1) ∧ Mods Nil W w') := Lib.hid (fun W => by have h := ccheck_any W ⟨op, 0, 0, 0, 0, 1, []⟩ (ok_op (client := 0) (seq := 0) (shard := 0) (segs := 0) (pos := 1) hop (by omega) (by simp) (by simp)) rfl (Rws.nil W); rw [hc] at h; exact h)
  have e1 : (op == 1) = false := by rw [beq_eq_false_iff_ne]; omega
  have e2 : (op == 2) = false := by rw [beq_eq_false_iff_ne]; omega
  have e3 : (op == 3) = false := by rw [beq_eq_false_iff_ne]; omega
  have e4 : (op == 4) = false := by rw [beq_eq_false_iff_ne]; omega
  clear hop hno
  clear hc
  go_enter Try.func6, Try.ntmps6
  go_wp2_with (first
    | (go_at_call 10; refine (awake10_any _).mono ?_; rintro e w1 ⟨rfl, m1⟩; have M1 := Lib.hid m1; clear m1)
    | (go_at_call 18; refine (HCHK.out _).mono ?_; rintro e w2 ⟨rfl, m2⟩; have M2 := Lib.hid ((M1.out.alloc _).trans m2); clear m2))
  go_ret
  exact ⟨rfl, M2.out⟩
set_option maxHeartbeats 3200000 in
theorem confOps_x_5 (w : World) {op : Int} (hop : -9223372036854775808 ≤ op ∧ op ≤ 9223372036854775807) (hno : ¬ (0 ≤ op ∧ op ≤ 4)) (z : Int) (hz : z.tmod 6 = 5) : Calls Try.prog 6 #[.int .i64 op, .int .u8 z] w fun e w' => e = .returned (.bool true) ∧ Mods Nil w w' := by
  have hc : chkC (⟨op, 0, 0, 0, 0, 0, [⟨0, [1]⟩]⟩ : PC) = 1 := chk_other hno
  have HCHK : Hid (∀ W A n k L, [⟨0, [1]⟩] = pws L → Rws W A n k L → Calls Try.prog 18 #[.agg #[.int .i64 op, .int .u64 0, .int .u64 0, .int .i64 0, .int .i64 0, .int .u64 0, .slice A n k]] W fun e w' => e = .returned (.int .i64 1) ∧ Mods Nil W w') := Lib.hid (fun W A n k L hr h => by have h2 := ccheck_any W ⟨op, 0, 0, 0, 0, 0, [⟨0, [1]⟩]⟩ (ok_op (client := 0) (seq := 0) (shard := 0) (segs := 0) (pos := 0) hop (by omega) (by intro r hr; rw [List.mem_singleton.1 hr]; exact ⟨by simp, by simp, by simp⟩) (by simp)) hr h; rw [hc] at h2; exact h2)
  have e1 : (op == 1) = false := by rw [beq_eq_false_iff_ne]; omega
  have e2 : (op == 2) = false := by rw [beq_eq_false_iff_ne]; omega
  have e3 : (op == 3) = false := by rw [beq_eq_false_iff_ne]; omega
  have e4 : (op == 4) = false := by rw [beq_eq_false_iff_ne]; omega
  clear hop hno
  clear hc
  go_enter Try.func6, Try.ntmps6
  go_wp2_with (first
    | (go_at_call 10; refine (awake10_any _).mono ?_; rintro e w1 ⟨rfl, m1⟩; have M1 := Lib.hid m1; clear m1; have R5 := Lib.hid (one_row (w := w1.alloc (.cells #[.int .i64 op, .int .u64 0, .int .u64 0, .int .i64 0, .int .i64 0, .int .u64 0, .slice (some ⟨w1.heap.size + 1 + 1, 0, none⟩) 1 1] 27)) 24 (g := w1.heap.size + 1) (by simp)))
    | (go_at_call 18; refine (HCHK.out _ _ _ _ _ rfl (R5.out)).mono ?_; rintro e w2 ⟨rfl, m2⟩; have M2 := Lib.hid ((((M1.out.alloc _).alloc _).alloc _).trans m2); clear m2))
  go_ret
  exact ⟨rfl, M2.out⟩
theorem confOps_walk (w : World) {op z : Int} (w0 : (Lit.int .i64 op).wf = true) (w1 : (Lit.int .u8 z).wf = true) : Calls Try.prog 6 #[.int .i64 op, .int .u8 z] w fun e w' => e = .returned (.bool true) ∧ Mods Nil w w' := by
  simp only [Lit.wf, Bool.and_eq_true, decide_eq_true_eq] at w0 w1
  have g1 : IntKind.i64.min = -9223372036854775808 := by decide
  have g2 : IntKind.i64.max = 9223372036854775807 := by decide
  have g3 : IntKind.u8.min = 0 := by decide
  have g4 : IntKind.u8.max = 255 := by decide
  have hz : z.tmod 6 = 0 ∨ z.tmod 6 = 1 ∨ z.tmod 6 = 2 ∨ z.tmod 6 = 3 ∨ z.tmod 6 = 4 ∨ z.tmod 6 = 5 := by
    rw [Int.tmod_eq_emod_of_nonneg (by omega)]; omega
  by_cases h : 0 ≤ op ∧ op ≤ 4
  · obtain rfl | rfl | rfl | rfl | rfl : op = 0 ∨ op = 1 ∨ op = 2 ∨ op = 3 ∨ op = 4 := by omega
    · rcases hz with hz | hz | hz | hz | hz | hz
      · exact confOps_0_0 w z hz
      · exact confOps_0_1 w z hz
      · exact confOps_0_2 w z hz
      · exact confOps_0_3 w z hz
      · exact confOps_0_4 w z hz
      · exact confOps_0_5 w z hz
    · rcases hz with hz | hz | hz | hz | hz | hz
      · exact confOps_1_0 w z hz
      · exact confOps_1_1 w z hz
      · exact confOps_1_2 w z hz
      · exact confOps_1_3 w z hz
      · exact confOps_1_4 w z hz
      · exact confOps_1_5 w z hz
    · rcases hz with hz | hz | hz | hz | hz | hz
      · exact confOps_2_0 w z hz
      · exact confOps_2_1 w z hz
      · exact confOps_2_2 w z hz
      · exact confOps_2_3 w z hz
      · exact confOps_2_4 w z hz
      · exact confOps_2_5 w z hz
    · rcases hz with hz | hz | hz | hz | hz | hz
      · exact confOps_3_0 w z hz
      · exact confOps_3_1 w z hz
      · exact confOps_3_2 w z hz
      · exact confOps_3_3 w z hz
      · exact confOps_3_4 w z hz
      · exact confOps_3_5 w z hz
    · rcases hz with hz | hz | hz | hz | hz | hz
      · exact confOps_4_0 w z hz
      · exact confOps_4_1 w z hz
      · exact confOps_4_2 w z hz
      · exact confOps_4_3 w z hz
      · exact confOps_4_4 w z hz
      · exact confOps_4_5 w z hz
  · rcases hz with hz | hz | hz | hz | hz | hz
    · exact confOps_x_0 w (by omega) h z hz
    · exact confOps_x_1 w (by omega) h z hz
    · exact confOps_x_2 w (by omega) h z hz
    · exact confOps_x_3 w (by omega) h z hz
    · exact confOps_x_4 w (by omega) h z hz
    · exact confOps_x_5 w (by omega) h z hz
end Go.Proofs.Ytcncgjiaefjmhaa
