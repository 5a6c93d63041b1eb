/- Package disk: New's errors; Len, Waits, Down, Stop, up, reach, count. -/
import Derived.Test.YtgebcpfgihcoiaaDisk1
namespace Go.Proofs.Ytgebcpfgihcoiaa
set_option maxRecDepth 100000
open Go.RowKit
set_option linter.unusedVariables false

theorem dup_none (w : World) : Calls Try.prog 70 #[.pointer none] w fun e w' => e = .returned (.int .i64 1) ∧ w = w' := by
  go_enter Try.func70, Try.ntmps70
  go_wp2
  go_ret
  exact ⟨rfl, rfl⟩
def PD.up (d : PD) : Int := if d.down then 20 else 0
theorem dup_any {w : World} {base db : Nat} {d : PD} (h : DiskAt w base db d) : Calls Try.prog 70 #[.pointer (some ⟨db, 0, none⟩)] w fun e w' => e = .returned (.int .i64 d.up) ∧ w = w' := by
  obtain ⟨vS, vW, z, h⟩ := h
  obtain ⟨⟨-, -, -, c3⟩, -⟩ := h.blk.four
  unfold PD.up
  clear h
  generalize d.down = b at *
  cases b with
  | true =>
    go_enter Try.func70, Try.ntmps70
    go_wp2
    go_ret
    exact ⟨rfl, rfl⟩
  | false =>
    go_enter Try.func70, Try.ntmps70
    go_wp2
    go_ret
    exact ⟨rfl, rfl⟩
theorem dlen_none (w : World) : Calls Try.prog 36 #[.pointer none] w fun e w' => e = .returned (.int .i64 0) ∧ w = w' := by
  go_enter Try.func36, Try.ntmps36
  go_wp2
  go_ret
  exact ⟨rfl, rfl⟩
theorem dlen_any {w : World} {base db : Nat} {d : PD} (h : DiskAt w base db d) : Calls Try.prog 36 #[.pointer (some ⟨db, 0, none⟩)] w fun e w' => e = .returned (.int .i64 (d.L.length : Int)) ∧ w = w' := by
  obtain ⟨vS, vW, z, h⟩ := h
  obtain ⟨⟨c0, -, -, -⟩, -⟩ := h.blk.four
  obtain ⟨A, c, rfl, -⟩ := own_form h.sure
  generalize d.L.length = n at *
  clear h
  go_enter Try.func36, Try.ntmps36
  go_wp2
  go_ret
  exact ⟨rfl, rfl⟩
theorem dwaits_none (w : World) : Calls Try.prog 58 #[.pointer none] w fun e w' => e = .returned (.int .i64 0) ∧ w = w' := by
  go_enter Try.func58, Try.ntmps58
  go_wp2
  go_ret
  exact ⟨rfl, rfl⟩
theorem dwaits_any {w : World} {base db : Nat} {d : PD} (h : DiskAt w base db d) : Calls Try.prog 58 #[.pointer (some ⟨db, 0, none⟩)] w fun e w' => e = .returned (.int .i64 (d.W.length : Int)) ∧ w = w' := by
  obtain ⟨vS, vW, z, h⟩ := h
  obtain ⟨⟨-, c1, -, -⟩, -⟩ := h.blk.four
  obtain ⟨A, c, rfl, -⟩ := own_form h.waits
  generalize d.W.length = n at *
  clear h
  go_enter Try.func58, Try.ntmps58
  go_wp2
  go_ret
  exact ⟨rfl, rfl⟩
theorem ddown_none (w : World) : Calls Try.prog 57 #[.pointer none] w fun e w' => e = .returned (.bool false) ∧ w = w' := by
  go_enter Try.func57, Try.ntmps57
  go_wp2
  go_ret
  exact ⟨rfl, rfl⟩
theorem ddown_any {w : World} {base db : Nat} {d : PD} (h : DiskAt w base db d) : Calls Try.prog 57 #[.pointer (some ⟨db, 0, none⟩)] w fun e w' => e = .returned (.bool d.down) ∧ w = w' := by
  obtain ⟨vS, vW, z, h⟩ := h
  obtain ⟨⟨-, -, -, c3⟩, -⟩ := h.blk.four
  generalize d.down = b at *
  clear h
  go_enter Try.func57, Try.ntmps57
  go_wp2
  go_ret
  exact ⟨rfl, rfl⟩
theorem dstop_none (w : World) (k : Int) : Calls Try.prog 21 #[.pointer none, .int .i64 k] w fun e w' => e = .returned (.tuple #[]) ∧ w = w' := by
  go_enter Try.func21, Try.ntmps21
  go_wp2
  refine bodyPost_end (results_none rfl _ _ _) rfl ?_
  exact ⟨rfl, rfl⟩
theorem dstop_any {w : World} {base db : Nat} {d : PD} (h : DiskAt w base db d) {k : Int} (hk : k ≤ 9223372036854775807) : Calls Try.prog 21 #[.pointer (some ⟨db, 0, none⟩), .int .i64 k] w fun e w' => e = .returned (.tuple #[]) ∧ DiskAt w' base db (d.stop k) ∧ DM base w w' := by
  obtain ⟨vS, vW, z, h⟩ := h
  have hf := h.setLeft (z2 := k) (left2 := (d.stop k).left) ⟨hk, by unfold PD.stop; dsimp only; split <;> omega⟩
  have HF := Lib.hid hf
  obtain ⟨⟨-, -, c2, -⟩, -, -, f2, -⟩ := h.blk.four
  clear h hf
  go_enter Try.func21, Try.ntmps21
  go_wp2
  refine bodyPost_end (results_none rfl _ _ _) rfl ?_
  exact ⟨rfl, ⟨vS, vW, k, HF.out.1⟩, HF.out.2⟩
theorem dreach_none (w : World) (i : Int) : Calls Try.prog 51 #[.pointer none, .int .i64 i] w fun e w' => e = .returned (.int .i64 1) ∧ w = w' := by
  go_enter Try.func51, Try.ntmps51
  go_wp2_with (go_at_call 70; refine (dup_none w).mono ?_; rintro e w1 ⟨rfl, rfl⟩)
  go_ret
  exact ⟨rfl, rfl⟩
theorem dreach_any {w : World} {base db : Nat} {d : PD} (h : DiskAt w base db d) (i : Int) : Calls Try.prog 51 #[.pointer (some ⟨db, 0, none⟩), .int .i64 i] w fun e w' => e = .returned (.int .i64 (d.at_ i)) ∧ w = w' := by
  have HU := Lib.hid (dup_any h)
  obtain ⟨vS, vW, z, h⟩ := h
  obtain ⟨⟨c0, -, -, -⟩, -⟩ := h.blk.four
  obtain ⟨A, c, rfl, -⟩ := own_form h.sure
  unfold PD.at_
  unfold PD.up at HU
  generalize d.L.length = n at *
  clear h
  generalize d.down = b at *
  cases b with
  | true =>
    go_enter Try.func51, Try.ntmps51
    go_wp2_with (go_at_call 70; refine HU.out.mono ?_; rintro e w1 ⟨rfl, rfl⟩)
    go_ret
    exact ⟨rfl, rfl⟩
  | false =>
    by_cases h1 : i < 0
    · rw [if_neg (by simp), if_pos (.inl h1)]
      go_enter Try.func51, Try.ntmps51
      go_wp2_with (go_at_call 70; refine HU.out.mono ?_; rintro e w1 ⟨rfl, rfl⟩)
      go_ret
      exact ⟨rfl, rfl⟩
    · have h1' : decide (i < 0) = false := by simpa using h1
      by_cases h2 : (n : Int) ≤ i
      · rw [if_neg (by simp), if_pos (.inr h2)]
        have h2' : decide (i ≥ (n : Int)) = true := by simpa using h2
        go_enter Try.func51, Try.ntmps51
        go_wp2_with (go_at_call 70; refine HU.out.mono ?_; rintro e w1 ⟨rfl, rfl⟩)
        go_ret
        exact ⟨rfl, rfl⟩
      · rw [if_neg (by simp), if_neg (by omega)]
        have h2' : decide ((n : Int) ≤ i) = false := by simpa using h2
        go_enter Try.func51, Try.ntmps51
        go_wp2_with (go_at_call 70; refine HU.out.mono ?_; rintro e w1 ⟨rfl, rfl⟩)
        go_ret
        exact ⟨rfl, rfl⟩
theorem dcount_any {w : World} {base db : Nat} {d : PD} (h : DiskAt w base db d) : Calls Try.prog 52 #[.pointer (some ⟨db, 0, none⟩)] w fun e w' => e = .returned (.int .i64 d.count.2) ∧ DiskAt w' base db d.count.1 ∧ DM base w w' := by
  obtain ⟨vS, vW, z, h⟩ := h
  obtain ⟨hz, hl⟩ := h.left
  obtain ⟨⟨-, -, c2, c3⟩, -, -, f2, f3⟩ := h.blk.four
  by_cases h0 : z = 0
  · have hl0 : d.left = 0 := by omega
    have HF := Lib.hid (h.setDown true)
    subst h0
    have e : d.count = ({ d with down := true }, 20) := by unfold PD.count; rw [if_pos hl0]
    rw [e]
    clear h hz hl hl0 e
    go_enter Try.func52, Try.ntmps52
    go_wp2
    go_ret
    exact ⟨rfl, ⟨vS, vW, 0, HF.out.1⟩, HF.out.2⟩
  · by_cases h1 : 0 < z
    · have e : d.count = ({ d with left := z - 1 }, 0) := by unfold PD.count; rw [if_neg (by omega), if_pos (by omega), show d.left = z by omega]
      rw [e]
      have HF := Lib.hid (h.setLeft (z2 := z - 1) (left2 := z - 1) ⟨by omega, .inl ⟨by omega, rfl⟩⟩)
      have h0' : decide (z = 0) = false := by simpa using h0
      clear h hl e
      go_enter Try.func52, Try.ntmps52
      go_wp2
      go_ret
      exact ⟨rfl, ⟨vS, vW, z - 1, HF.out.1⟩, HF.out.2⟩
    · have e : d.count = (d, 0) := by unfold PD.count; rw [if_neg (by omega), if_neg (by omega)]
      rw [e]
      have H := Lib.hid h
      have h0' : decide (z = 0) = false := by simpa using h0
      have h1' : decide (0 < z) = false := by simpa using h1
      clear h hl e
      go_enter Try.func52, Try.ntmps52
      go_wp2
      go_ret
      exact ⟨rfl, ⟨vS, vW, z, H.out⟩, DM.refl _ _⟩
end Go.Proofs.Ytgebcpfgihcoiaa
