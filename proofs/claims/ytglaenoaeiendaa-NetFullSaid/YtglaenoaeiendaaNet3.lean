/- Package net: an element taken out of a row (slices.Delete), Take. -/
import Derived.Test.YtglaenoaeiendaaNet2
namespace Go.Proofs.Ytglaenoaeiendaa
set_option maxRecDepth 100000
open Go.RowKit
set_option linter.unusedVariables false

theorem sizePacket (W : World) : (sizeOf (Try.prog.elem 44)).run Try.prog W = .ok 3 W := by kernel_rfl

/-- What a removal leaves. -/
def Cut1 (w : World) (base g n1 cap : Nat) (l : List Pk) (e : Ending) (w' : World) : Prop :=
  e = .returned (.slice (some ⟨g, 0, none⟩) n1 cap) ∧ w'.ownsRow base 32 3 (.slice (some ⟨g, 0, none⟩) n1 cap) n1 (pks l) ∧ Mods (fun k => k = g) w w'

set_option maxHeartbeats 3200000 in
theorem ndel_any {w : World} {base g n cap i n1 : Nat} {l : List Pk} (hown : w.ownsRow base 32 3 (.slice (some ⟨g, 0, none⟩) n cap) n (pks l)) (hn1 : n = n1 + 1) (hi : i < n) (hn : n ≤ 4096) (hnc : n ≤ cap) :
    Calls Try.prog 18 #[.slice (some ⟨g, 0, none⟩) n cap, .int .i64 (i : Int), .int .i64 ((i : Int) + 1)] w (Cut1 w base g n1 cap (l.eraseIdx i)) := by
  obtain ⟨i0, hi0, hz0, hz1, hz2⟩ := info_parts infoPacket
  obtain ⟨V1, hV1⟩ : ∃ V1, sliced (some ⟨g, 0, none⟩) i (i + 1) n 3 = V1 := ⟨_, rfl⟩
  have q1 : ∀ W : World, (Instr.slice 44 (.slice (some ⟨g, 0, none⟩) n cap) (some (.int .i64 (i : Int))) (some (.int .i64 ((i : Int) + 1))) (some (.int .i64 (n : Int)))).run Try.prog W = .ok V1 W := by
    intro W
    rw [run_slice_lhm (P := Try.prog) W _ _ n cap (by exact Try.underlying44) .i64 .i64 .i64 (i : Int) ((i : Int) + 1) (n : Int) (by omega) (by omega) (by omega) (by omega), sizePacket]
    simp only [Result.andThen]
    rw [show ((i : Int) + 1).toNat = i + 1 by omega, show (i : Int).toNat = i by omega, show (n : Int).toNat = n by omega, hV1]
  have q2 : ∀ W : World, (Instr.slice 44 (.slice (some ⟨g, 0, none⟩) n cap) none (some (.int .i64 (i : Int))) none).run Try.prog W = .ok (.slice (some ⟨g, 0, none⟩) i cap) W := by
    intro W
    rw [run_slice_h (P := Try.prog) W _ _ n cap (by exact Try.underlying44) .i64 (i : Int) (by omega) (by omega), sizePacket]
    simp only [Result.andThen, sliced]
    rw [show (i : Int).toNat = i by omega]
    simp [Addr.add_lit]
  obtain ⟨AA, hAA⟩ : ∃ AA : Addr, (if cap = i + 1 then (⟨g, 0, none⟩ : Addr) else ⟨g, (i + 1) * 3, none⟩) = AA := ⟨_, rfl⟩
  have q3 : ∀ W : World, (Instr.slice 44 (.slice (some ⟨g, 0, none⟩) n cap) (some (.int .i64 ((i : Int) + 1))) none none).run Try.prog W = .ok (.slice (some AA) (n - (i + 1)) (cap - (i + 1))) W := by
    intro W
    rw [run_slice_l (P := Try.prog) W _ _ n cap (by exact Try.underlying44) .i64 ((i : Int) + 1) (by omega) (by omega), sizePacket]
    simp only [Result.andThen, sliced]
    rw [show ((i : Int) + 1).toNat = i + 1 by omega, ← hAA]
    by_cases hc : cap = i + 1 <;> simp [hc, Addr.add_lit]
  have q4 : ∀ W : World, (Instr.slice 44 (.slice (some ⟨g, 0, none⟩) n1 cap) (some (.int .i64 (n1 : Int))) (some (.int .i64 (n : Int))) none).run Try.prog W = .ok (.slice (some ⟨g, n1 * 3, none⟩) 1 (cap - n1)) W := by
    intro W
    rw [run_slice_lh (P := Try.prog) W _ _ n1 cap (by exact Try.underlying44) .i64 .i64 (n1 : Int) (n : Int) (by omega) (by omega) (by omega), sizePacket]
    simp only [Result.andThen, sliced]
    rw [show (n1 : Int).toNat = n1 by omega, show (n : Int).toNat = n by omega, if_neg (by omega), show n - n1 = 1 by omega]
    simp [Addr.add_lit]
  have hA1 : i + 1 < n → AA = ⟨g, (i + 1) * 3, none⟩ := fun h => by rw [← hAA, if_neg (by omega)]
  have hne : ((i : Int) == (i : Int) + 1) = false := by rw [beq_eq_false_iff_ne]; omega
  have hsub : n - 1 = n1 := by omega
  have HOWN := Lib.hid hown
  have HA1 := Lib.hid hA1
  have HSUB := Lib.hid hsub
  have HOUT := Lib.hid (pks_out l i)
  have hfit : n1 * 3 + 1 * 3 ≤ cap * 3 := by omega
  clear hown hA1 hsub hAA hV1 hn1 hn hnc
  go_enter Try.func18, Try.ntmps18
  go_wp2
  go_region_law (refine step_append_out _ rfl _ _ 44 rfl base n 3 g cap 32 i0 (pks l) (by exact HOWN.out.drew) Try.underlying44 hi0 hz1 (pks_one l) i hi AA (cap - (i + 1)) rfl rfl HA1.out ?_; intro w4 hown m4; rw [HSUB.out] at hown; rw [HSUB.out]; have O4 := Lib.hid hown; have M4 := Lib.hid m4; clear hown m4)
  have mm : Mods (fun k => k = g) w w4 := M4.out.of_drew
  have MM := Lib.hid mm
  clear mm
  go_wp2_with (refine wpList_clear_rows rfl _ 44 rfl base n1 3 g cap 32 i0 (.agg #[.int .i64 0, .int .i64 0, .slice none 0 0]) _ O4.out Try.underlying44 hi0 hz0 rfl (by simp [Value.cells, Value.oneCell']) (some ⟨g, n1 * 3, none⟩) 1 (cap - n1) (n1 * 3) rfl (fun _ => ⟨rfl, Nat.le_refl _, hfit⟩) ?_; intro w5 hown m5; have O5 := Lib.hid hown; have M5 := Lib.hid (MM.out.trans m5); clear hown m5)
  go_ret
  refine ⟨rfl, ?_, M5.out⟩
  rw [← HOUT.out]
  exact O5.out
end Go.Proofs.Ytglaenoaeiendaa
