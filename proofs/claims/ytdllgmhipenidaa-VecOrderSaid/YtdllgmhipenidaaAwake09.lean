/- What the statements of layer 9 begin with: the document's example. -/
import Derived.Test.YtdllgmhipenidaaTold9
namespace Go.Proofs.Ytdllgmhipenidaa
set_option maxRecDepth 1000000
open Go.RowKit
set_option linter.unusedVariables false
set_option linter.unusedSimpArgs false

theorem bd_small {xs : List Nat} (h : ∀ x ∈ xs, x < 1000) : Bd xs := Bd.of (fun x hx => by have := h x hx; omega)
theorem minL_aw (A B : Option Addr) (c d : Nat) : minL [⟨A, c, [1, 2, 3]⟩, ⟨B, d, [2, 1]⟩] = [1, 1] := by rfl
theorem maxL_aw (A B : Option Addr) (c d : Nat) : maxL [⟨A, c, [1, 2, 3]⟩, ⟨B, d, [2, 1]⟩] = [2, 2, 3] := by rfl
set_option maxHeartbeats 3200000 in
theorem awake9_any (w : World) : Calls Try.prog 42 #[] w fun e w' => e = .returned (.bool true) ∧ Mods Nil w w' := by
  have HMIN := Lib.hid (fun (V : World) (A B C : Option Addr) (ha : Sl V A 3 (nums [1, 2, 3])) (hb : Sl V B 2 (nums [2, 1])) (hc : Sl V C 2 [.slice A 3 3, .slice B 2 2]) => by
    have h := tmin (l := [⟨A, 3, [1, 2, 3]⟩, ⟨B, 2, [2, 1]⟩]) (n := 2) rfl (by omega) (two_rows rfl rfl hc) (two_ok ha hb (bd_small (by simp)) (bd_small (by simp)) (by simp) (by simp))
    rw [minL_aw] at h
    exact h)
  have HMAX := Lib.hid (fun (V : World) (A B C : Option Addr) (ha : Sl V A 3 (nums [1, 2, 3])) (hb : Sl V B 2 (nums [2, 1])) (hc : Sl V C 2 [.slice A 3 3, .slice B 2 2]) => by
    have h := tmax (l := [⟨A, 3, [1, 2, 3]⟩, ⟨B, 2, [2, 1]⟩]) (n := 2) rfl (by omega) (two_rows rfl rfl hc) (two_ok ha hb (bd_small (by simp)) (bd_small (by simp)) (by simp) (by simp))
    rw [maxL_aw] at h
    exact h)
  have HL1 := Lib.hid (fun (V : World) (A B : Option Addr) (ha : Sl V A 2 (nums [3, 1])) (hb : Sl V B 2 (nums [1, 1])) => by
    have h := tless (xs := [3, 1]) (ys := [1, 1]) (n := 2) (m := 2) rfl (by omega) (bd_small (by simp)) ha rfl (by omega) hb
    rw [show lessL [3, 1] [1, 1] = [2] from rfl, show lessE [3, 1] [1, 1] = 0 from rfl] at h
    exact h)
  have HL2 := Lib.hid (fun (V : World) (A B : Option Addr) (ha : Sl V A 1 (nums [1])) (hb : Sl V B 1 (nums [2])) => by
    have h := tless (xs := [1]) (ys := [2]) (n := 1) (m := 1) rfl (by omega) (bd_small (by simp)) ha rfl (by omega) hb
    rw [show lessL [1] [2] = [] from rfl, show lessE [1] [2] = 15 from rfl] at h
    exact h)
  have HSUM := Lib.hid (fun (V : World) (A : Option Addr) (ha : Sl V A 2 (nums [1, 2])) => by
    have h := sum_any V (xs := [1, 2]) (n := 2) rfl (by omega) (bd_small (by simp)) ha
    rw [show sumV [1, 2] = 3 from rfl, show sumE [1, 2] = 0 from rfl] at h
    exact h)
  have HSAME := Lib.hid (fun (V : World) (A B : Option Addr) (ha : Sl V A 1 (nums [1])) (hb : Sl V B 2 (nums [1, 0])) => by
    have h := same_any V (xs := [1]) (ys := [1, 0]) (n := 1) (m := 2) rfl (by omega) ha rfl (by omega) hb
    rw [show sameB [1] [1, 0] = true from rfl] at h
    exact h)
  go_enter Try.func42, Try.ntmps42
  go_wp2_with (first
    | (go_at_call 50; go_loud (refine (HSAME.out _ _ _ ((build_at (n := 1) (by simp) rfl rfl (by decide)).alloc _) (build_at (n := 2) (by simp) rfl rfl (by decide))).mono ?_); rintro e w7 ⟨rfl, m7⟩; have M7 := Lib.hid (((M6.out.alloc _).alloc _).trans m7); clear m7)
    | (go_at_call 43; go_loud (refine (HSUM.out _ _ (build_at (n := 2) (by simp) rfl rfl (by decide))).mono ?_); rintro e w6 ⟨rfl, m6⟩; have M6 := Lib.hid ((M5.out.alloc _).trans m6); have mm := (((Mods.refl Nil w5).alloc _).trans m6); have S26 := Lib.hid (S25.out.mods mm (fun _ _ h => h)); have S36 := Lib.hid (S35.out.mods mm (fun _ _ h => h)); have S46 := Lib.hid (S45.out.mods mm (fun _ _ h => h)); clear mm; obtain ⟨b2, o2, rfl, p2, q20⟩ := sl_num S26.out (j := 0) (by simp); obtain ⟨b2', o2', hA, p2', q21⟩ := sl_num S26.out (j := 1) (by simp); injection hA with hA; injection hA with hA1 hA2; subst hA1; subst hA2; obtain ⟨b3, o3, rfl, p3, q30⟩ := sl_num S36.out (j := 0) (by simp); obtain ⟨b4, o4, rfl, p4, q40⟩ := sl_num S46.out (j := 0) (by simp); rw [Nat.add_zero, show vat [1, 1] 0 = 1 from rfl] at q20; rw [show vat [1, 1] 1 = 1 from rfl] at q21; rw [Nat.add_zero, show vat [2, 2, 3] 0 = 2 from rfl] at q30; rw [Nat.add_zero, show vat [2] 0 = 2 from rfl] at q40; clear m6 p2 p2' p3 p4)
    | (go_at_call 45; have hM4 := M4.out; clear hM4; refine (HL2.out _ _ _ ((build_at (n := 1) (by simp) rfl rfl (by decide)).alloc _) (build_at (n := 1) (by simp) rfl rfl (by decide))).mono ?_; rintro e w5 ⟨A5, c5, n5, rfl, l5, s5, m5⟩; obtain rfl : n5 = 0 := l5.symm; have mm := ((((Mods.refl Nil w4).alloc _).alloc _).trans m5); have S25 := Lib.hid (S24.out.mods mm (fun _ _ h => h)); have S35 := Lib.hid (S34.out.mods mm (fun _ _ h => h)); have S45 := Lib.hid (S4.out.mods mm (fun _ _ h => h)); clear mm; have M5 := Lib.hid (((M4.out.alloc _).alloc _).trans m5); clear l5 s5 m5)
    | (go_at_call 45; refine (HL1.out _ _ _ ((build_at (n := 2) (by simp) rfl rfl (by decide)).alloc _) (build_at (n := 2) (by simp) rfl rfl (by decide))).mono ?_; rintro e w4 ⟨A4, c4, n4, rfl, l4, s4, m4⟩; obtain rfl : n4 = 1 := l4.symm; have S4 := Lib.hid s4; have mm := ((((Mods.refl Nil w3).alloc _).alloc _).trans m4); have S24 := Lib.hid (S23.out.mods mm (fun _ _ h => h)); have S34 := Lib.hid (S3.out.mods mm (fun _ _ h => h)); clear mm; have M4 := Lib.hid (((M3.out.alloc _).alloc _).trans m4); clear l4 s4 m4)
    | (go_at_call 57; refine (HMAX.out _ _ _ _ (((build_at (n := 3) (by simp) rfl rfl (by decide)).alloc _).alloc _) ((build_at (n := 2) (by simp) rfl rfl (by decide)).alloc _) (build_at (n := 2) (by simp) rfl rfl (by decide))).mono ?_; rintro e w3 ⟨A3, c3, n3, rfl, l3, s3, m3⟩; obtain rfl : n3 = 3 := l3.symm; have S3 := Lib.hid s3; have mm := (((((Mods.refl Nil w2).alloc _).alloc _).alloc _).trans m3); have S23 := Lib.hid (S2.out.mods mm (fun _ _ h => h)); clear mm; have M3 := Lib.hid ((((M2.out.alloc _).alloc _).alloc _).trans m3); clear l3 s3 m3)
    | (go_at_call 55; refine (HMIN.out _ _ _ _ (((build_at (n := 3) (by simp) rfl rfl (by decide)).alloc _).alloc _) ((build_at (n := 2) (by simp) rfl rfl (by decide)).alloc _) (build_at (n := 2) (by simp) rfl rfl (by decide))).mono ?_; rintro e w2 ⟨A2, c2, n2, rfl, l2, s2, m2⟩; obtain rfl : n2 = 2 := l2.symm; have S2 := Lib.hid s2; have M2 := Lib.hid (((((Mods.refl Nil w).alloc _).alloc _).alloc _).trans m2); clear l2 s2 m2))
  go_ret
  exact ⟨rfl, M7.out⟩
end Go.Proofs.Ytdllgmhipenidaa
