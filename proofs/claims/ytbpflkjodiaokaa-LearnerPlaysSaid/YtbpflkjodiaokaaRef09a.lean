/- The reference of layer 9: At, Le, Same, Sum, longest. -/
import Derived.Test.YtbpflkjodiaokaaVec4
import Derived.Test.YtbpflkjodiaokaaGQ
namespace Go.Proofs.Ytbpflkjodiaokaa
set_option maxRecDepth 100000
open Go.RowKit
set_option linter.unusedVariables false
/-- Two rows of numbers compared, number by number. -/
theorem nums_eq_of {xs ys : List Nat} (hl : xs.length = ys.length) (h : ∀ j, j < xs.length → vat xs j = vat ys j) : xs = ys := by
  apply List.ext_getElem hl
  intro i h1 h2
  have := h i h1
  rwa [vat_lt h1, vat_lt h2] at this
set_option maxHeartbeats 1600000 in
theorem r9same_any (w : World) {n c m d : Nat} {A B : Option Addr} {xs ys : List Nat} (hn : xs.length = n) (hl : n ≤ 1000000) (hs : Sl w A c (nums xs)) (hm : ys.length = m) (hy : Sl w B d (nums ys)) :
    Calls Try.prog 15 #[.slice A n c, .slice B m d] w fun e w' => e = .returned (.bool (decide (xs = ys))) ∧ Mods Nil w w' := by
  by_cases hnm : n = m
  · subst hnm
    have HS := Lib.hid hs
    have HYS := Lib.hid hy
    have HN := Lib.hid hn
    have HM := Lib.hid hm
    clear hs hn hm hy
    go_enter Try.func15, Try.ntmps15
    go_wp2
    go_loopw [5] (fun x wr => ∃ j : Nat, j ≤ n ∧ x = .int .i64 (j : Int) ∧ (∀ i, i < j → vat xs i = vat ys i) ∧ Mods Nil w wr) (fun x _ => n - (intOf x).toNat)
    case atStart => exact ⟨0, Nat.zero_le _, rfl, fun i h => by omega, Mods.refl _ _⟩
    case round =>
      obtain ⟨j, hj, rfl, hy, hmo⟩ := hrel
      have HY := Lib.hid hy
      have HMO := Lib.hid hmo
      clear hy hmo
      by_cases hlt : j < n
      · have hjI : (j : Int) < (n : Int) := by omega
        obtain ⟨b, off, rfl, hb, hc⟩ := sl_num (HS.out.mods HMO.out (fun _ _ h => h)) (j := j) (by rw [HN.out]; exact hlt)
        obtain ⟨b2, off2, rfl, hb2, hc2⟩ := sl_num (HYS.out.mods HMO.out (fun _ _ h => h)) (j := j) (by rw [HM.out]; exact hlt)
        obtain ⟨x, hx⟩ : ∃ x, vat xs j = x := ⟨_, rfl⟩
        obtain ⟨y, hyy⟩ : ∃ y, vat ys j = y := ⟨_, rfl⟩
        have HX := Lib.hid hx
        have HYY := Lib.hid hyy
        rw [hx] at hc
        rw [hyy] at hc2
        have hcV : ∀ V, Mods Nil wr V → V.cell? ⟨b, off + j, none⟩ = some (.int .u64 (x : Int)) := fun V hV => (World.cell?_of_block (hV.block b hb (fun h => h))).trans hc
        have hcW : ∀ V, Mods Nil wr V → V.cell? ⟨b2, off2 + j, none⟩ = some (.int .u64 (y : Int)) := fun V hV => (World.cell?_of_block (hV.block b2 hb2 (fun h => h))).trans hc2
        clear hx hyy
        by_cases hle : x = y
        · have hleI : ((x : Int) == (y : Int)) = true := by rw [hle]; simp
          go_wp2_with fail
          refine gq_region (by kernel_rfl) (by kernel_rfl) ?_
          try simp only [Act.put, List.setIfInBounds_toArray, List.set_cons_zero, List.set_cons_succ]
          repeat (first
            | go_big_quiet_skip
            | (go_big_quiet_want; first
                | (refine gq_op (v := ?_) ?_ ?_; rotate_left; (focus (intro V hV; go_simp; try with_reducible rfl)); go_big_quiet_on))
              simp only [Act.put, List.setIfInBounds_toArray, List.set_cons_zero, List.set_cons_succ])
          refine wpQuiet_nil ?_
          intro V hV
          go_wp2_with fail
          exact ⟨⟨j + 1, by omega, by go_num, (fun i hi => by
            by_cases e : i = j
            · rw [e, HX.out, HYY.out]; exact hle
            · exact HY.out i (by omega)), HMO.out.trans hV⟩, by simp [intOf]; omega⟩
        · have hleI : ((x : Int) == (y : Int)) = false := by rw [beq_eq_false_iff_ne]; omega
          go_wp2_with fail
          refine gq_region (by kernel_rfl) (by kernel_rfl) ?_
          try simp only [Act.put, List.setIfInBounds_toArray, List.set_cons_zero, List.set_cons_succ]
          repeat (first
            | go_big_quiet_skip
            | (go_big_quiet_want; first
                | (refine gq_op (v := ?_) ?_ ?_; rotate_left; (focus (intro V hV; go_simp; try with_reducible rfl)); go_big_quiet_on))
              simp only [Act.put, List.setIfInBounds_toArray, List.set_cons_zero, List.set_cons_succ])
          refine wpQuiet_nil ?_
          intro V hV
          go_wp2_with fail
          go_ret
          exact ⟨by rw [decide_eq_false (fun e => hle (by rw [← HX.out, ← HYY.out, e]))]; rfl, HMO.out.trans hV⟩
      · obtain rfl : j = n := by omega
        go_wp2
        go_ret
        exact ⟨by rw [decide_eq_true (nums_eq_of (by rw [HN.out, HM.out]) (by rw [HN.out]; exact HY.out))]; rfl, HMO.out⟩
  · have hne : decide (xs = ys) = false := decide_eq_false (fun e => hnm (by rw [← hn, ← hm, e]))
    rw [hne]
    have hnI : ((n : Int) == (m : Int)) = false := by rw [beq_eq_false_iff_ne]; omega
    clear hs hn hm hy hne
    go_enter Try.func15, Try.ntmps15
    go_wp2
    go_ret
    exact ⟨rfl, Mods.refl _ _⟩
end Go.Proofs.Ytbpflkjodiaokaa
