/- The reference of layer 9: At, Le, Same, Sum, longest. -/
import Derived.Test.YtkodmgnagfolpaaVec4
import Derived.Test.YtkodmgnagfolpaaGQ
namespace Go.Proofs.Ytkodmgnagfolpaa
set_option maxRecDepth 100000
open Go.RowKit
set_option linter.unusedVariables false
set_option linter.unusedSimpArgs false

set_option maxHeartbeats 800000 in
theorem r9at_any (w : World) {A : Option Addr} {c n : Nat} {xs : List Nat} (hn : xs.length = n) (hs : Sl w A c (nums xs)) (i : Int) :
    Calls Try.prog 32 #[.slice A n c, .int .i64 i] w fun e w' => e = .returned (.int .u64 (atI xs i : Int)) ∧ w = w' := by
  by_cases h0 : i < 0
  · rw [show atI xs i = 0 from if_pos h0]
    have h0I : decide (0 ≤ i) = false := by simp; omega
    clear hs hn h0
    go_enter Try.func32, Try.ntmps32
    go_wp2_with fail
    go_ret
    exact ⟨rfl, rfl⟩
  · obtain ⟨j, rfl⟩ : ∃ j : Nat, i = (j : Int) := ⟨i.toNat, by omega⟩
    rw [atI_nat]
    have h0I : decide ((0 : Int) ≤ (j : Int)) = true := by simp
    by_cases hj : n ≤ j
    · rw [vat_ge (by omega)]
      have hjI : decide ((j : Int) < (n : Int)) = false := by simp; omega
      clear hs hn h0
      go_enter Try.func32, Try.ntmps32
      go_wp2_with fail
      go_ret
      exact ⟨rfl, rfl⟩
    · obtain ⟨b, off, rfl, hb, hc⟩ := sl_num hs (j := j) (by omega)
      have hjJ : (j : Int) < (n : Int) := by omega
      obtain ⟨y, hy⟩ : ∃ y, vat xs j = y := ⟨_, rfl⟩
      rw [hy] at hc ⊢
      clear hs hn h0 hy
      go_enter Try.func32, Try.ntmps32
      go_wp2_with fail
      go_ret
      exact ⟨rfl, rfl⟩
theorem r9at_nat (w : World) {A : Option Addr} {c n : Nat} {xs : List Nat} (hn : xs.length = n) (hs : Sl w A c (nums xs)) (i : Nat) :
    Calls Try.prog 32 #[.slice A n c, .int .i64 (i : Int)] w fun e w' => e = .returned (.int .u64 (vat xs i : Int)) ∧ w = w' := by
  have := r9at_any w hn hs (i : Int)
  rwa [atI_nat] at this
set_option maxHeartbeats 1600000 in
theorem r9le_any (w : World) {n c m d : Nat} {A B : Option Addr} {xs ys : List Nat} (hn : xs.length = n) (hl : n ≤ 1000000) (hs : Sl w A c (nums xs)) (hm : ys.length = m) (hy : Sl w B d (nums ys)) :
    Calls Try.prog 20 #[.slice A n c, .slice B m d] w fun e w' => e = .returned (.bool (leB xs ys)) ∧ Mods Nil w w' := by
  have HS := Lib.hid hs
  have HN := Lib.hid hn
  have HAT := Lib.hid (fun (V : World) (hV : Mods Nil w V) (j : Nat) => r9at_nat V hm (hy.mods hV (fun _ _ h => h)) j)
  clear hs hn hm hy
  go_enter Try.func20, Try.ntmps20
  go_wp2
  go_loopw [5] (fun x wr => ∃ j : Nat, j ≤ n ∧ x = .int .i64 (j : Int) ∧ (∀ i, i < j → decide (vat xs i ≤ vat ys i) = true) ∧ Mods Nil w wr) (fun x _ => n - (intOf x).toNat)
  case atStart => exact ⟨0, Nat.zero_le _, rfl, fun i h => by omega, Mods.refl _ _⟩
  case round =>
    obtain ⟨j, hj, rfl, hy, hmo⟩ := hrel
    have HY := Lib.hid hy
    have HMO := Lib.hid hmo
    clear hy hmo
    by_cases hlt : j < n
    · have hjI : (j : Int) < (n : Int) := by omega
      obtain ⟨b, off, rfl, hb, hc⟩ := sl_num (HS.out.mods HMO.out (fun _ _ h => h)) (j := j) (by rw [HN.out]; exact hlt)
      obtain ⟨x, hx⟩ : ∃ x, vat xs j = x := ⟨_, rfl⟩
      obtain ⟨y, hyy⟩ : ∃ y, vat ys j = y := ⟨_, rfl⟩
      have HX := Lib.hid hx
      have HYY := Lib.hid hyy
      have HA : Hid (∀ V, Mods Nil wr V → Calls Try.prog 32 #[.slice B m d, .int .i64 (j : Int)] V fun e V' => e = .returned (.int .u64 (vat ys j : Int)) ∧ Mods Nil wr V') := Lib.hid (fun V hV => (HAT.out V (HMO.out.trans hV) j).mono fun e V' h => ⟨h.1, h.2 ▸ hV⟩)
      rw [hx] at hc
      have hcV : ∀ V, Mods Nil wr V → V.cell? ⟨b, off + j, none⟩ = some (.int .u64 (x : Int)) := fun V hV => (World.cell?_of_block (hV.block b hb (fun h => h))).trans hc
      rw [hyy] at HA
      clear hx hyy
      by_cases hle : x ≤ y
      · have hleI : decide ((y : Int) < (x : Int)) = false := by simp; omega
        go_wp2_with fail
        refine gq_region (by kernel_rfl) (by kernel_rfl) ?_
        try simp only [Act.put, List.setIfInBounds_toArray, List.set_cons_zero, List.set_cons_succ]
        repeat (first
          | go_big_quiet_skip
          | (go_big_quiet_want; first
              | (refine gq_call HA.out ?_ ?_; (focus (intro V; go_simp; done)); go_big_quiet_on)
              | (refine gq_op (v := ?_) ?_ ?_; rotate_left; (focus (intro V hV; go_simp; try with_reducible rfl)); go_big_quiet_on))
            simp only [Act.put, List.setIfInBounds_toArray, List.set_cons_zero, List.set_cons_succ])
        refine wpQuiet_nil ?_
        intro V hV
        go_wp2_with fail
        exact ⟨⟨j + 1, by omega, by go_num, snoc_yes HY.out (by rw [HX.out, HYY.out]; simpa using hle), HMO.out.trans hV⟩, by simp [intOf]; omega⟩
      · have hleI : decide ((y : Int) < (x : Int)) = true := by simp; omega
        go_wp2_with fail
        refine gq_region (by kernel_rfl) (by kernel_rfl) ?_
        try simp only [Act.put, List.setIfInBounds_toArray, List.set_cons_zero, List.set_cons_succ]
        repeat (first
          | go_big_quiet_skip
          | (go_big_quiet_want; first
              | (refine gq_call HA.out ?_ ?_; (focus (intro V; go_simp; done)); go_big_quiet_on)
              | (refine gq_op (v := ?_) ?_ ?_; rotate_left; (focus (intro V hV; go_simp; try with_reducible rfl)); go_big_quiet_on))
            simp only [Act.put, List.setIfInBounds_toArray, List.set_cons_zero, List.set_cons_succ])
        refine wpQuiet_nil ?_
        intro V hV
        go_wp2_with fail
        go_ret
        exact ⟨by rw [leB_not (by rw [HN.out]; exact hlt) (by rw [HX.out, HYY.out]; simpa using hle)]; rfl, HMO.out.trans hV⟩
    · obtain rfl : j = n := by omega
      go_wp2
      go_ret
      exact ⟨by rw [leB_of (by rw [HN.out]; exact HY.out)]; rfl, HMO.out⟩

/-- Two rows of numbers compared, number by number. -/
theorem nums_eq_of {xs ys : List Nat} (hl : xs.length = ys.length) (h : ∀ j, j < xs.length → vat xs j = vat ys j) : xs = ys := by
  apply List.ext_getElem hl
  intro i h1 h2
  have := h i h1
  rwa [vat_lt h1, vat_lt h2] at this
set_option maxHeartbeats 1600000 in
theorem r9same_any (w : World) {n c m d : Nat} {A B : Option Addr} {xs ys : List Nat} (hn : xs.length = n) (hl : n ≤ 1000000) (hs : Sl w A c (nums xs)) (hm : ys.length = m) (hy : Sl w B d (nums ys)) :
    Calls Try.prog 19 #[.slice A n c, .slice B m d] w fun e w' => e = .returned (.bool (decide (xs = ys))) ∧ Mods Nil w w' := by
  by_cases hnm : n = m
  · subst hnm
    have HS := Lib.hid hs
    have HYS := Lib.hid hy
    have HN := Lib.hid hn
    have HM := Lib.hid hm
    clear hs hn hm hy
    go_enter Try.func19, Try.ntmps19
    go_wp2
    go_loopw [5] (fun x wr => ∃ j : Nat, j ≤ n ∧ x = .int .i64 (j : Int) ∧ (∀ i, i < j → vat xs i = vat ys i) ∧ Mods Nil w wr) (fun x _ => n - (intOf x).toNat)
    case atStart => exact ⟨0, Nat.zero_le _, rfl, fun i h => by omega, Mods.refl _ _⟩
    case round =>
      obtain ⟨j, hj, rfl, hy, hmo⟩ := hrel
      have HY := Lib.hid hy
      have HMO := Lib.hid hmo
      clear hy hmo
      by_cases hlt : j < n
      · have hjI : (j : Int) < (n : Int) := by omega
        obtain ⟨b, off, rfl, hb, hc⟩ := sl_num (HS.out.mods HMO.out (fun _ _ h => h)) (j := j) (by rw [HN.out]; exact hlt)
        obtain ⟨b2, off2, rfl, hb2, hc2⟩ := sl_num (HYS.out.mods HMO.out (fun _ _ h => h)) (j := j) (by rw [HM.out]; exact hlt)
        obtain ⟨x, hx⟩ : ∃ x, vat xs j = x := ⟨_, rfl⟩
        obtain ⟨y, hyy⟩ : ∃ y, vat ys j = y := ⟨_, rfl⟩
        have HX := Lib.hid hx
        have HYY := Lib.hid hyy
        rw [hx] at hc
        rw [hyy] at hc2
        have hcV : ∀ V, Mods Nil wr V → V.cell? ⟨b, off + j, none⟩ = some (.int .u64 (x : Int)) := fun V hV => (World.cell?_of_block (hV.block b hb (fun h => h))).trans hc
        have hcW : ∀ V, Mods Nil wr V → V.cell? ⟨b2, off2 + j, none⟩ = some (.int .u64 (y : Int)) := fun V hV => (World.cell?_of_block (hV.block b2 hb2 (fun h => h))).trans hc2
        clear hx hyy
        by_cases hle : x = y
        · have hleI : ((x : Int) == (y : Int)) = true := by rw [hle]; simp
          go_wp2_with fail
          refine gq_region (by kernel_rfl) (by kernel_rfl) ?_
          try simp only [Act.put, List.setIfInBounds_toArray, List.set_cons_zero, List.set_cons_succ]
          repeat (first
            | go_big_quiet_skip
            | (go_big_quiet_want; first
                | (refine gq_op (v := ?_) ?_ ?_; rotate_left; (focus (intro V hV; go_simp; try with_reducible rfl)); go_big_quiet_on))
              simp only [Act.put, List.setIfInBounds_toArray, List.set_cons_zero, List.set_cons_succ])
          refine wpQuiet_nil ?_
          intro V hV
          go_wp2_with fail
          exact ⟨⟨j + 1, by omega, by go_num, (fun i hi => by
            by_cases e : i = j
            · rw [e, HX.out, HYY.out]; exact hle
            · exact HY.out i (by omega)), HMO.out.trans hV⟩, by simp [intOf]; omega⟩
        · have hleI : ((x : Int) == (y : Int)) = false := by rw [beq_eq_false_iff_ne]; omega
          go_wp2_with fail
          refine gq_region (by kernel_rfl) (by kernel_rfl) ?_
          try simp only [Act.put, List.setIfInBounds_toArray, List.set_cons_zero, List.set_cons_succ]
          repeat (first
            | go_big_quiet_skip
            | (go_big_quiet_want; first
                | (refine gq_op (v := ?_) ?_ ?_; rotate_left; (focus (intro V hV; go_simp; try with_reducible rfl)); go_big_quiet_on))
              simp only [Act.put, List.setIfInBounds_toArray, List.set_cons_zero, List.set_cons_succ])
          refine wpQuiet_nil ?_
          intro V hV
          go_wp2_with fail
          go_ret
          exact ⟨by rw [decide_eq_false (fun e => hle (by rw [← HX.out, ← HYY.out, e]))]; rfl, HMO.out.trans hV⟩
      · obtain rfl : j = n := by omega
        go_wp2
        go_ret
        exact ⟨by rw [decide_eq_true (nums_eq_of (by rw [HN.out, HM.out]) (by rw [HN.out]; exact HY.out))]; rfl, HMO.out⟩
  · have hne : decide (xs = ys) = false := decide_eq_false (fun e => hnm (by rw [← hn, ← hm, e]))
    rw [hne]
    have hnI : ((n : Int) == (m : Int)) = false := by rw [beq_eq_false_iff_ne]; omega
    clear hs hn hm hy hne
    go_enter Try.func19, Try.ntmps19
    go_wp2
    go_ret
    exact ⟨rfl, Mods.refl _ _⟩
end Go.Proofs.Ytkodmgnagfolpaa
