/- Package disk: New, Write. -/
import Derived.Test.YtgebcpfgihcoiaaDisk3
namespace Go.Proofs.Ytgebcpfgihcoiaa
set_option maxRecDepth 100000
open Go.RowKit
set_option linter.unusedVariables false

theorem made_zero (n : Nat) : (madeCells (Value.agg (Array.replicate 64 (.int .u8 0))).cells (n * 64)).toList = sureC (List.replicate n zeros64) := by
  have e1 : (madeCells (Value.agg (Array.replicate 64 (.int .u8 0))).cells (n * 64)).toList = List.replicate (n * 64) (Value.int .u8 0) := by
    apply List.ext_getElem?
    intro j
    by_cases hj : j < n * 64
    · have : j % 64 < 64 := Nat.mod_lt _ (by omega)
      simp [madeCells, hj, Value.cells, this]
    · simp [madeCells, hj]
  rw [e1]
  clear e1
  induction n with
  | zero => rfl
  | succ n ih =>
    rw [List.replicate_succ, show (n + 1) * 64 = 64 + n * 64 by omega, ← List.replicate_append_replicate, ih]
    unfold sureC
    rw [List.flatMap_cons]
    congr 1
theorem dnew_bad (w : World) {n : Int} (h : n < 1 ∨ 65536 < n) : Calls Try.prog 10 #[.int .i64 n] w fun e w' => e = .returned (.tuple #[.pointer none, .int .i64 1]) ∧ w = w' := by
  rcases h with h | h
  · go_enter Try.func10, Try.ntmps10
    go_wp2
    go_ret2
    exact ⟨rfl, rfl⟩
  · have h2 : decide (n < 1) = false := by simp; omega
    have h3 : decide (65536 < n) = true := by simpa using h
    go_enter Try.func10, Try.ntmps10
    go_wp2
    go_ret2
    exact ⟨rfl, rfl⟩
theorem dnew_any (w : World) {base n : Nat} (hb : base ≤ w.heap.size) (h1 : 1 ≤ n) (h2 : n ≤ 65536) : Calls Try.prog 10 #[.int .i64 (n : Int)] w fun e w' => ∃ db, e = .returned (.tuple #[.pointer (some ⟨db, 0, none⟩), .int .i64 0]) ∧ DiskAt w' base db (PD.new n) ∧ Mods Nil w w' := by
  obtain ⟨i0, hi, hz0, hz1, hz2⟩ := info_parts infoBlock
  have k1 : decide ((n : Int) < 1) = false := by simp; omega
  have k2 : decide ((65536 : Int) < (n : Int)) = false := by simp; omega
  have HB := Lib.hid hb
  have H2 := Lib.hid h2
  clear hb h1 h2
  go_enter Try.func10, Try.ntmps10
  go_wp2_with (at_make; refine wpList_make_full _ rfl _ _ 75 rfl base 103 i0 (.agg (Array.replicate 64 (.int .u8 0))) 64 Try.underlying75 hi hz0 hz1 .i64 .i64 (n : Int) (n : Int) n rfl rfl rfl rfl (by rw [hz2]; have := H2.out; omega) (by have := H2.out; unfold maxLen; omega) HB.out ?_; intro w1 o1 g1; have O1 := Lib.hid o1; have G1 := Lib.hid g1; clear o1 g1)
  go_ret2
  have m1 : Mods Nil w w1 := (Mods.refl Nil w).grown G1.out (fun k hk => by cases hk)
  have o1 := O1.out
  rw [made_zero] at o1
  refine ⟨_, rfl, ⟨_, _, _, Blk.new _ _ _, ?_, ?_, ?_, ⟨by omega, .inr ⟨by omega, rfl⟩⟩, PD.new_ok n⟩, m1.alloc _⟩
  · have := own_mods o1 ((Mods.refl Nil w1).alloc (.cells #[.slice (some ⟨w.heap.size, 0, none⟩) n n, .slice none 0 0, .int .i64 (-1), .bool false] 78)) (fun _ _ h => h)
    simpa [PD.new] using this
  · exact World.ownsRow_nil _ _ _ _
  · have := HB.out; have := m1.size; omega

def wZ (i : Int) : Array Value := #[.int .i64 i] ++ Array.replicate 64 (.int .u8 0)
theorem built_w (i : Int) : Try.prog.built 105 [(0, .int .i64 i)] = some (wZ i) := by kernel_rfl
theorem wZ_one (i : Int) : (wZ i).all (·.oneCell') = true := Array.all_eq_true_iff_forall_mem.2 (by
  intro v hv
  simp [wZ] at hv
  rcases hv with rfl | rfl <;> rfl)
theorem zero_w (W : World) : (zeroValue 105).run Try.prog W = .ok (.agg (wZ 0)) W := by
  obtain ⟨i0, hi, hz0, hz1, hz2⟩ := info_parts infoWrite
  simp [zeroValue, typeInfo, hi, hz0, wZ]
theorem wZ_copy {i : Nat} {b : List UInt8} (hb : b.length = 64) : ((wZ (i : Int)).toList.take 1 ++ bts b ++ (wZ (i : Int)).toList.drop (1 + 64)).toArray = (wC (i, b)).toArray := by
  simp [wZ, wC]
theorem dwrite_none (w : World) (i : Int) (B : Value) : Calls Try.prog 24 #[.pointer none, .int .i64 i, B] w fun e w' => e = .returned (.int .i64 1) ∧ w = w' := by
  go_enter Try.func24, Try.ntmps24
  go_wp2_with (go_at_call 51; refine (dreach_none w i).mono ?_; rintro e w1 ⟨rfl, rfl⟩)
  go_ret
  exact ⟨rfl, rfl⟩

theorem infoWrite3 : (Try.prog.info? 105).map (fun i => (i.zero, i.size, i.bytes)) = some (some (.agg (wZ 0)), 65, 72) := by kernel_rfl
theorem DiskIn.add {w w3 w4 : World} {base db : Nat} {vS vW v4 : Value} {z : Int} {d : PD} (h : DiskIn w base db vS vW z d) {k : Nat} {b : List UInt8} (hk : k < d.L.length) (hb : b.length = 64) (m3 : Mods Nil w w3)
    (own4 : w4.ownsRow base 105 65 v4 (d.W.length + 1) (waitsC d.W ++ wC (k, b))) (hg : w3.grownBy w4 vW.ownBlock) :
    DiskIn (w4.setCell ⟨db, 1, none⟩ v4) base db vS v4 z { d with W := d.W ++ [(k, b)] } ∧ DM base w (w4.setCell ⟨db, 1, none⟩ v4) := by
  have h3 := h.nil m3
  have hne := own_blk_ne h.waits h.blk (by decide)
  have hb4 := h3.blk.grown hg (fun e => hne e.symm)
  have m34 : Mods (fun k => vW.ownBlock = some k) w3 w4 := (Mods.refl _ w3).grown hg (fun k hk _ => hk)
  have hset : Mods (fun k => k = db) w4 (w4.setCell ⟨db, 1, none⟩ v4) := Mods.setCell (S := fun k => k = db) (p := ⟨db, 1, none⟩) (Mods.refl _ _) (fun _ => rfl) _
  have s4 := own_mods h3.sure m34 (fun k hk e => own_own_ne h.sure h.waits (by decide) hk e)
  refine ⟨⟨by simpa using hb4.set_ 1 v4, own_mods s4 hset (fun k hk e => own_blk_ne s4 hb4 (by decide) (by rw [hk, e])), ?_, h.le, h.left, ⟨h.ok.sure, fun w hw => ?_⟩⟩, ?_⟩
  · have := own_mods own4 hset (fun k hk e => own_blk_ne own4 hb4 (by decide) (by rw [hk, e]))
    simpa [waitsC] using this
  · rcases List.mem_append.1 hw with hw | hw
    · exact h.ok.waits w hw
    · obtain rfl : w = (k, b) := by simpa using hw
      exact ⟨hk, hb⟩
  · refine ((DM.nil m3).trans (m34.mono (fun k _ e => own_ds h3.waits (.inr (.inr rfl)) k e))).trans (hset.mono (fun k _ e => by rw [e]; exact ⟨h.le, _, _, hb4, .inl rfl⟩))
end Go.Proofs.Ytgebcpfgihcoiaa
