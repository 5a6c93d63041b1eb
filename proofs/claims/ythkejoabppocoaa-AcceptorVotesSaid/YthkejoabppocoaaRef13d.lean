/- The reference of layer 13: Same, Put. -/
import Derived.Test.YthkejoabppocoaaRef13c
import Derived.Test.YthkejoabppocoaaGQ
import Derived.Laws.StructEq
namespace Go.Proofs.Ythkejoabppocoaa
set_option maxRecDepth 100000
open Go.RowKit
set_option linter.unusedVariables false
set_option linter.unusedSimpArgs false

theorem vneq_any (W : World) (x y : PVt) : (binOp .neq 47 (.agg #[.int .u64 (x.slot : Int), .int .u64 (x.bal : Int), .string (strOf x.val)]) (.agg #[.int .u64 (y.slot : Int), .int .u64 (y.bal : Int), .string (strOf y.val)])).run Try.prog W = .ok (.bool (!((x.slot == y.slot) && (x.bal == y.bal) && (x.val == y.val)))) W := by
  obtain ⟨a, b, c⟩ := x
  obtain ⟨d, e, f⟩ := y
  have hc : ((strOf c).toList == (strOf f).toList) = (c == f) := by rw [strOf_toList, strOf_toList]
  by_cases h1 : a = d
  · by_cases h2 : b = e
    · by_cases h3 : c = f
      · subst h1; subst h2; subst h3
        simp [go_sem]
      · have h3' : (c == f) = false := by simpa using h3
        subst h1; subst h2
        rw [h3'] at hc
        simp [go_sem, hc, h3']
    · have h2' : ((b : Int) == (e : Int)) = false := by rw [beq_eq_false_iff_ne]; omega
      have h2n : (b == e) = false := by rw [beq_eq_false_iff_ne]; omega
      subst h1
      simp [go_sem, h2', h2n, h2]
  · have h1' : ((a : Int) == (d : Int)) = false := by rw [beq_eq_false_iff_ne]; omega
    have h1n : (a == d) = false := by rw [beq_eq_false_iff_ne]; omega
    simp [go_sem, h1', h1n, h1]
theorem vneq_iff (x y : PVt) : (!((x.slot == y.slot) && (x.bal == y.bal) && (x.val == y.val))) = true ↔ x ≠ y := by
  obtain ⟨a, b, c⟩ := x
  obtain ⟨d, e, f⟩ := y
  by_cases h1 : a = d
  · by_cases h2 : b = e
    · simp [h1, h2]
    · simp [h1, h2]
  · simp [h1]

/-- What Same tells. -/
def SameV (w : World) (l m : List PVt) (e : Ending) (w' : World) : Prop := ∃ r : Bool, e = .returned (.bool r) ∧ (r = true ↔ l = m) ∧ Mods Nil w w'
set_option maxHeartbeats 3200000 in
theorem r13same_any (w : World) {l m : List PVt} {A B : Option Addr} {n k c d : Nat} (hA : RVs w A c n l) (hB : RVs w B d k m) (hn : n ≤ 100000) (hk : k ≤ 100000) :
    Calls Try.prog 13 #[.slice A n c, .slice B k d] w (SameV w l m) := by
  have HA := Lib.hid hA
  have HB := Lib.hid hB
  have HN := Lib.hid hA.len
  have HK := Lib.hid hB.len
  clear hA hB
  by_cases hnk : n = k
  · subst hnk
    have hne : ((n : Int) != (n : Int)) = false := by simp
    go_enter Try.func13, Try.ntmps13
    go_wp2
    go_loopw [5] (fun x wr => ∃ i : Nat, i ≤ n ∧ x = .int .i64 (i : Int) ∧ l.take i = m.take i ∧ Mods Nil w wr) (fun x _ => n - (intOf x).toNat)
    case atStart => exact ⟨0, Nat.zero_le _, rfl, by simp, Mods.refl _ _⟩
    case round =>
      obtain ⟨i, hi, rfl, he, hm⟩ := hrel
      have HM := Lib.hid hm
      have HE := Lib.hid he
      clear hm he
      by_cases hlt : i < n
      · have hltI : (i : Int) < (n : Int) := by omega
        have hl1 : i < l.length := by rw [HN.out]; exact hlt
        have hl2 : i < m.length := by rw [HK.out]; exact hlt
        obtain ⟨b1, o1, rfl, -, c0, c1, c2⟩ := (HA.out.nil HM.out).at_ hlt
        obtain ⟨b2, o2, rfl, -, d0, d1, d2⟩ := (HB.out.nil HM.out).at_ hlt
        have ht1 := take_vt hl1
        have ht2 := take_vt hl2
        obtain ⟨x, hx⟩ : ∃ x, l[i] = x := ⟨_, rfl⟩
        obtain ⟨y, hy⟩ : ∃ y, m[i] = y := ⟨_, rfl⟩
        have HG1 := Lib.hid (show l[i]? = some x by rw [← hx]; exact List.getElem?_eq_getElem hl1)
        have HG2 := Lib.hid (show m[i]? = some y by rw [← hy]; exact List.getElem?_eq_getElem hl2)
        rw [hx] at c0 c1 c2 ht1
        rw [hy] at d0 d1 d2 ht2
        have HT1 := Lib.hid ht1
        have HT2 := Lib.hid ht2
        clear hx hy ht1 ht2 hl1 hl2
        by_cases hxy : x = y
        · have hq : ∀ W, (binOp .neq 47 (.agg #[.int .u64 (x.slot : Int), .int .u64 (x.bal : Int), .string (strOf x.val)]) (.agg #[.int .u64 (y.slot : Int), .int .u64 (y.bal : Int), .string (strOf y.val)])).run Try.prog W = .ok (.bool false) W := fun W => by
            have h := vneq_any W x y
            rw [show (!((x.slot == y.slot) && (x.bal == y.bal) && (x.val == y.val))) = false by
              have := (not_congr (vneq_iff x y)).2 (by simp [hxy])
              simpa using this] at h
            exact h
          have HXY := Lib.hid hxy
          clear hxy
          go_wp2
          go_quiet (fail)
          go_wp2
          exact ⟨⟨i + 1, by omega, by go_num, by rw [HT1.out, HT2.out, HE.out, HXY.out], HM.out.drewN _⟩, by simp [intOf]; omega⟩
        · have hq : ∀ W, (binOp .neq 47 (.agg #[.int .u64 (x.slot : Int), .int .u64 (x.bal : Int), .string (strOf x.val)]) (.agg #[.int .u64 (y.slot : Int), .int .u64 (y.bal : Int), .string (strOf y.val)])).run Try.prog W = .ok (.bool true) W := fun W => by
            have h := vneq_any W x y
            rw [(vneq_iff x y).2 hxy] at h
            exact h
          have HXY := Lib.hid hxy
          clear hxy
          go_wp2
          go_quiet (fail)
          go_wp2
          go_ret
          refine ⟨false, rfl, ⟨fun h => (by cases h), fun h => ?_⟩, HM.out.drewN _⟩
          have h1 := HG1.out
          rw [h, HG2.out] at h1
          injection h1 with h1
          exact absurd h1.symm HXY.out
      · obtain rfl : i = n := by omega
        go_wp2
        go_ret
        refine ⟨true, rfl, ⟨fun _ => ?_, fun _ => rfl⟩, HM.out⟩
        have h := HE.out
        rw [List.take_of_length_le (by rw [HN.out]; exact Nat.le_refl _), List.take_of_length_le (by rw [HK.out]; exact Nat.le_refl _)] at h
        exact h
  · have hne : ((n : Int) != (k : Int)) = true := by rw [bne_iff_ne]; omega
    have hneN : (n != k) = true := by rw [bne_iff_ne]; omega
    go_enter Try.func13, Try.ntmps13
    go_wp2
    go_ret
    exact ⟨false, rfl, ⟨fun h => (by cases h), fun h => absurd (by rw [← HN.out, ← HK.out, h]) hnk⟩, Mods.refl _ _⟩

set_option maxHeartbeats 3200000 in
theorem r13put_any (w : World) {l : List PVt} {A : Option Addr} {n c : Nat} (hA : RVs w A c n l) (hn : n ≤ 100000) (hok : ∀ v ∈ l, v.ok) :
    Calls Try.prog 25 #[.slice A n c] w fun e w' => e = .returned (.string (strOf (vputL l))) ∧ Mods Nil w w' := by
  have HA := Lib.hid hA
  have HN := Lib.hid hA.len
  have HOK := Lib.hid hok
  have HU := Lib.hid (ruint_any n (by omega) w)
  have hwn : IntKind.u64.wrap (n : Int) = (n : Int) := (IntKind.wrap_u64 (n : Int)).trans (by omega)
  have HUL := Lib.hid (putU_length n (by omega))
  clear hA hok
  go_enter Try.func25, Try.ntmps25
  go_wp2_with (go_at_call 41; refine (HU.out).mono ?_; rintro e w1 ⟨rfl, m1⟩; have M1 := Lib.hid m1; clear m1)
  go_loopw [3, 4] (fun s x wr => ∃ (i : Nat) (P : List UInt8), i ≤ n ∧ x = .int .i64 (i : Int) ∧ s = .string (strOf P) ∧ P = putU n ++ vputVs (l.take i) ∧ P.length ≤ 9 + 40000 * i ∧ Mods Nil w wr) (fun _ x _ => n - (intOf x).toNat)
  case atStart => exact ⟨0, putU n, Nat.zero_le _, rfl, rfl, by simp [vputVs], by have := HUL.out; omega, M1.out⟩
  case round =>
    clear M1
    obtain ⟨i, P, hi, rfl, rfl, hP, hPl, hm⟩ := hrel
    have HM := Lib.hid hm
    have HP := Lib.hid hP
    clear hm hP
    by_cases hlt : i < n
    · have hltI : (i : Int) < (n : Int) := by omega
      have hl1 : i < l.length := by rw [HN.out]; exact hlt
      obtain ⟨b1, o1, rfl, hbl, c0, c1, c2⟩ := (HA.out.nil HM.out).at_ hlt
      have ht1 := take_vt hl1
      have hok := HOK.out _ (List.getElem_mem hl1)
      generalize l[i] = x at c0 c1 c2 ht1 hok
      obtain ⟨s, bb, vv⟩ := x
      simp only at c0 c1 c2
      obtain ⟨h1, h2, h3⟩ := hok
      simp only at h1 h2 h3
      have HT1 := Lib.hid ht1
      have HU1 := Lib.hid (gq_of (W := wr) (fun V => ruint_any s h1 V))
      have HU2 := Lib.hid (gq_of (W := wr) (fun V => ruint_any bb h2 V))
      have HU3 := Lib.hid (gq_of (W := wr) (fun V => rbytes_any vv (by omega) V))
      have u1 := putU_length s h1
      have u2 := putU_length bb h2
      have u3 := putB_length' vv (by omega)
      obtain ⟨X, hX⟩ : ∃ X, putU s = X := ⟨_, rfl⟩
      obtain ⟨Y, hY⟩ : ∃ X, putU bb = X := ⟨_, rfl⟩
      obtain ⟨Z, hZ⟩ : ∃ X, putB vv = X := ⟨_, rfl⟩
      rw [hX] at HU1 u1
      rw [hY] at HU2 u2
      rw [hZ] at HU3 u3
      have hadd1 := fun W => string_add Try.prog X Y (by omega) W
      have hadd2 := fun W => string_add Try.prog (X ++ Y) Z (by simp; omega) W
      have hadd3 := fun W => string_add Try.prog P (X ++ (Y ++ Z)) (by simp; omega) W
      rw [List.append_assoc] at hadd2
      have HLN := Lib.hid (show (P ++ (X ++ (Y ++ Z))).length ≤ 9 + 40000 * (i + 1) by simp; omega)
      have HXYZ := Lib.hid (show vputV ⟨s, bb, vv⟩ = X ++ (Y ++ Z) by unfold vputV; rw [hX, hY, hZ, List.append_assoc])
      clear ht1 h1 h2 h3 u1 u2 u3 hX hY hZ hPl hl1
      go_wp2_with fail
      refine gq_region (by kernel_rfl) (by kernel_rfl) ?_
      try simp only [Act.put, List.setIfInBounds_toArray, List.set_cons_zero, List.set_cons_succ]
      repeat (first
        | go_big_quiet_skip
        | (go_big_quiet_want; first
            | (refine gq_call HU1.out ?_ ?_; (focus (intro V; go_simp; done)); go_big_quiet_on)
            | (refine gq_call HU2.out ?_ ?_; (focus (intro V; go_simp; done)); go_big_quiet_on)
            | (refine gq_call HU3.out ?_ ?_; (focus (intro V; go_simp; done)); go_big_quiet_on)
            | (refine gq_op (v := ?_) ?_ ?_; rotate_left; (focus (intro V hV; have k0 := (World.cell?_of_block (hV.block b1 hbl (fun h => h))).trans c0; have k1 := (World.cell?_of_block (hV.block b1 hbl (fun h => h))).trans c1; have k2 := (World.cell?_of_block (hV.block b1 hbl (fun h => h))).trans c2; go_simp; try with_reducible rfl)); go_big_quiet_on))
          simp only [Act.put, List.setIfInBounds_toArray, List.set_cons_zero, List.set_cons_succ])
      refine wpQuiet_nil ?_
      intro V6 hV6
      have HV6 := Lib.hid hV6
      clear hV6 c0 c1 c2 hadd1 hadd2 hadd3 HU1 HU2 HU3
      go_wp2
      exact ⟨⟨i + 1, P ++ (X ++ (Y ++ Z)), by omega, by go_num, rfl, by rw [HT1.out, vputVs_snoc, HP.out, HXYZ.out]; simp, HLN.out, HM.out.trans HV6.out⟩, by simp [intOf]; omega⟩
    · obtain rfl : i = n := by omega
      go_wp2
      go_ret
      refine ⟨?_, HM.out⟩
      rw [HP.out, List.take_of_length_le (by rw [HN.out]; exact Nat.le_refl _)]
      unfold vputL
      rw [HN.out]
      rfl
end Go.Proofs.Ythkejoabppocoaa
