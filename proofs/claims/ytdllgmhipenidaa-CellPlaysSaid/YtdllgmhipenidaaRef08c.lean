/- The reference of layer 8: right. -/
import Derived.Test.YtdllgmhipenidaaRef08a
import Derived.Test.YtdllgmhipenidaaGQ
namespace Go.Proofs.Ytdllgmhipenidaa
set_option maxRecDepth 100000
open Go.RowKit
set_option linter.unusedVariables false

theorem rightC_eq {b : List UInt8} (h : b.length = 64) : rightC b = (rightOf (b.take 56) && (b.take 8 == b.drop 56) && decide ((b.getD 8 0).toNat < 44) && decide (turnN b 0 ≠ 0)) := by
  have e : decide (turnN b 0 = turnN b 56) = (b.take 8 == b.drop 56) := by
    have e0 := eight_turnN h (k := 0) (by omega)
    have e1 := eight_turnN h (k := 56) (by omega)
    rw [List.drop_zero] at e0
    rw [List.take_of_length_le (by simp [h])] at e1
    rw [Bool.eq_iff_iff]
    simp only [decide_eq_true_eq, beq_iff_eq]
    constructor
    · intro hx
      rw [← e0, ← e1, hx]
    · intro hx
      rw [← e0, ← e1] at hx
      exact eight_inj (turnN_lt h (by omega)) (turnN_lt h (by omega)) hx
  unfold rightC
  rw [e]
  have e2 : decide ((b.getD 8 0).toNat ≤ 43) = decide ((b.getD 8 0).toNat < 44) := by
    rw [Bool.eq_iff_iff]
    simp only [decide_eq_true_eq]
    omega
  rw [e2, Bool.and_assoc (rightOf _ && _), Bool.and_assoc (rightOf _ && _), Bool.and_comm (decide (turnN b 0 ≠ 0))]
set_option maxHeartbeats 3200000 in
theorem r8right_any (w : World) {b : List UInt8} (h : b.length = 64) : Calls Try.prog 95 #[.string (strOf b)] w fun e w' => e = .returned (.bool (rightC b)) ∧ Mods Nil w w' := by
  have hsz : (strOf b).size = 64 := by simp [h]
  have x1 : (strOf b).extract 0 56 = strOf (b.take 56) := by rw [strOf_extract]; simp
  have x2 : (strOf b).extract 0 8 = strOf (b.take 8) := by rw [strOf_extract]; simp
  have x3 : (strOf b).extract 56 64 = strOf (b.drop 56) := by rw [strOf_extract, List.take_of_length_le (by simp [h])]
  have hl : (b.take 56).length ≤ 140737488355328 := by simp; omega
  have hx8 : ∀ hh : 8 < (strOf b).size, ((strOf b)[8]'hh).toNat = (b[8]'(by omega)).toNat := fun _ => rfl
  have hg : b.getD 8 0 = b[8] := by simp [List.getD_eq_getElem?_getD, h]
  have hr := rightC_eq h
  have HR := Lib.hid (fun W => rright_any W (b.take 56) hl)
  have HN := Lib.hid (fun W => r8number_any W h (by omega))
  rw [hg] at hr
  have e1 := strOf_toList (b.take 8)
  have e2 := strOf_toList (b.drop 56)
  rw [hr]
  have hp := (b[8]).toNat_lt
  generalize (b[8]).toNat = y at *
  generalize b.take 8 = u at *
  generalize b.drop 56 = v at *
  generalize turnN b 0 = t at *
  clear hr hl hg h
  cases hs : rightOf (b.take 56) with
  | false =>
    rw [hs] at HR
    clear hs
    go_enter Try.func95, Try.ntmps95
    go_wp2_with (go_at_call 126; refine (HR.out _).mono ?_; rintro e w1 ⟨rfl, m1⟩; have M1 := Lib.hid m1; clear m1)
    go_quiet (fail)
    all_goals
      go_wp2_with fail
      go_ret
      exact ⟨rfl, M1.out.drewN nq⟩
  | true =>
    rw [hs] at HR
    clear hs
    cases huv : (u == v) with
    | false =>
      go_enter Try.func95, Try.ntmps95
      go_wp2_with (go_at_call 126; refine (HR.out _).mono ?_; rintro e w1 ⟨rfl, m1⟩; have M1 := Lib.hid m1; clear m1)
      go_quiet (fail)
      all_goals
        go_wp2_with fail
        go_ret
        exact ⟨rfl, M1.out.drewN nq⟩
    | true =>
      by_cases hy : y < 44
      · have hyI : (y : Int) < 44 := by omega
        have hyD : decide (y < 44) = true := by simpa using hy
        have htD : ((t : Int) != 0) = decide (t ≠ 0) := by
          rw [Bool.eq_iff_iff]
          simp
        go_enter Try.func95, Try.ntmps95
        go_wp2_with (go_at_call 126; refine (HR.out _).mono ?_; rintro e w1 ⟨rfl, m1⟩; have M1 := Lib.hid m1; clear m1)
        have HN1 := Lib.hid (gq_of (W := w1) (fun V => HN.out V))
        refine gq_region (by kernel_rfl) (by kernel_rfl) ?_
        try simp only [Act.put, List.setIfInBounds_toArray, List.set_cons_zero, List.set_cons_succ]
        repeat (first
          | go_big_quiet_skip
          | (go_big_quiet_want; first
              | (refine gq_call HN1.out ?_ ?_; (focus (intro V; go_simp; done)); go_big_quiet_on)
              | (refine gq_op (v := ?_) ?_ ?_; rotate_left; (focus (intro V hV; go_simp; try with_reducible rfl)); go_big_quiet_on))
            simp only [Act.put, List.setIfInBounds_toArray, List.set_cons_zero, List.set_cons_succ])
        refine wpQuiet_nil ?_
        intro V hV
        go_wp2_with fail
        go_ret
        exact ⟨by simp [hyD], M1.out.trans hV⟩
      · have hyI : decide ((y : Int) < 44) = false := by simp; omega
        have hyD : decide (y < 44) = false := by simpa using hy
        go_enter Try.func95, Try.ntmps95
        go_wp2_with (go_at_call 126; refine (HR.out _).mono ?_; rintro e w1 ⟨rfl, m1⟩; have M1 := Lib.hid m1; clear m1)
        go_quiet (fail)
        all_goals
          go_wp2_with fail
          go_ret
          exact ⟨by simp [hyD], M1.out.drewN nq⟩
end Go.Proofs.Ytdllgmhipenidaa
