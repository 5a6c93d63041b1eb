/- The reference of layer 1: rows of bytes, and the end. -/
import Derived.Test.YtkamikmamhbjcaaRef2
namespace Go.Proofs.Ytkamikmamhbjcaa
open Go.RowKit
set_option linter.unusedVariables false

theorem rend_any (w : World) (B : List UInt8) (E : Int) :
    Calls Try.prog 26 #[refOf B E] w fun e w' => e = .returned (.int .i64 (if E = 0 then (if B = [] then 0 else 12) else E)) ∧ Mods Nil w w' := by
  unfold refOf
  have ks := strOf_toList B
  by_cases he : E = 0
  · subst he
    rcases B with _ | ⟨c, r⟩
    · go_enter Try.func26, Try.ntmps26
      go_wp2
      go_ret
      exact ⟨rfl, (Mods.refl _ _).alloc _⟩
    · go_enter Try.func26, Try.ntmps26
      go_wp2
      go_ret
      exact ⟨rfl, (Mods.refl _ _).alloc _⟩
  · have hb2 : (E != 0) = true := by simp [he]
    have hb3 : (E == 0) = false := by simp [he]
    rw [if_neg he]
    go_enter Try.func26, Try.ntmps26
    go_wp2
    go_ret
    exact ⟨rfl, (Mods.refl _ _).alloc _⟩

theorem valOf_lt64' (xs : List UInt8) (err : Int) : (readUint err xs).2.2 < 18446744073709551616 := valOf_lt64 xs err

set_option maxHeartbeats 1600000 in
theorem rbytesr_any (w : World) (B : List UInt8) (E most : Int) (hmost : most ≤ 9223372036854775807) (hB : B.length ≤ 140737488355328) :
    Calls Try.prog 21 #[refOf B E, .int .i64 most] w (RTold w B (readBytes E B most)) := by
  have hR := fun W => rread_any W B E hB
  have hq := valOf_lt64 B E
  have hql := readUint_le B E
  unfold readBytes
  generalize readUint E B = R at hR hq hql
  obtain ⟨e1, ys, q⟩ := R
  simp only at hq hql ⊢
  have HR := Lib.hid hR
  clear hR
  unfold refOf
  by_cases he : e1 = 0
  · subst he
    rw [if_neg (by simp)]
    by_cases hm : most < 0
    · rw [if_pos (.inl hm)]
      have hm' : decide (most < 0) = true := by simpa using hm
      go_enter Try.func21, Try.ntmps21
      go_wp2_with fail
      refine (HR.out _).mono ?_
      rintro e w2 ⟨B2, he, hb2, hl2, m2⟩
      obtain rfl : B2 = ys := hb2 rfl
      unfold refOf at he
      simp only at he
      subst he
      have M2 := Lib.hid m2
      obtain ⟨bA, bB⟩ := two_boxes m2
      obtain ⟨a0, a1, a2, a3⟩ := bA.two
      obtain ⟨bA2, bB2⟩ := set_both bA bB (by omega) (.string (strOf B2)) (.int .i64 0)
      obtain ⟨bA3, bB3⟩ := set_second bA2 bB2 (by omega) (.int .i64 13)
      obtain ⟨c0, c1, c2, c3⟩ := bA2.two
      obtain ⟨d0, d1, d2, d3⟩ := bA3.two
      obtain ⟨f0, f1, f2, f3⟩ := bB3.two
      clear m2 bA bB bA2 bB2 bA3 bB3
      go_wp2_with fail
      exact bodyPost_ret (v := .tuple #[.agg #[.string (strOf B2), .int .i64 13], .string ⟨#[]⟩]) (by simp [results, Try.results21, go_sem, f0, f1]) rfl ⟨B2, rfl, fun h => absurd h (by decide), hl2, ((((((Mods.refl Nil w).alloc _).alloc _).trans M2.out).setNew (Nat.le_refl _) _).setNew (Nat.le_refl _) _ |>.setNew (Nat.le_refl _) _ |>.setNew (Nat.le_succ _) _).setNew (Nat.le_succ _) _⟩
    · have hm' : decide (most < 0) = false := by simpa using hm
      have hw : IntKind.u64.wrap most = most := by rw [IntKind.wrap_u64]; omega
      by_cases hb : most < (q : Int)
      · rw [if_pos (.inr hb)]
        go_enter Try.func21, Try.ntmps21
        go_wp2_with fail
        refine (HR.out _).mono ?_
        rintro e w2 ⟨B2, he, hb2, hl2, m2⟩
        obtain rfl : B2 = ys := hb2 rfl
        unfold refOf at he
        simp only at he
        subst he
        have M2 := Lib.hid m2
        obtain ⟨bA, bB⟩ := two_boxes m2
        obtain ⟨a0, a1, a2, a3⟩ := bA.two
        obtain ⟨bA2, bB2⟩ := set_both bA bB (by omega) (.string (strOf B2)) (.int .i64 0)
        obtain ⟨bA3, bB3⟩ := set_second bA2 bB2 (by omega) (.int .i64 13)
        obtain ⟨c0, c1, c2, c3⟩ := bA2.two
        obtain ⟨d0, d1, d2, d3⟩ := bA3.two
        obtain ⟨f0, f1, f2, f3⟩ := bB3.two
        clear m2 bA bB bA2 bB2 bA3 bB3 hq
        go_wp2_with fail
        exact bodyPost_ret (v := .tuple #[.agg #[.string (strOf B2), .int .i64 13], .string ⟨#[]⟩]) (by simp [results, Try.results21, go_sem, f0, f1]) rfl ⟨B2, rfl, fun h => absurd h (by decide), hl2, ((((((Mods.refl Nil w).alloc _).alloc _).trans M2.out).setNew (Nat.le_refl _) _).setNew (Nat.le_refl _) _ |>.setNew (Nat.le_refl _) _ |>.setNew (Nat.le_succ _) _).setNew (Nat.le_succ _) _⟩
      · rw [if_neg (fun h => h.elim hm hb)]
        have hq2 : (q : Int) ≤ 9223372036854775807 := by omega
        have hR2 := fun W => rraw_any W ys 0 (q : Int) (by omega)
        have HR2 := Lib.hid hR2
        clear hR2 hq
        go_enter Try.func21, Try.ntmps21
        go_wp2_with fail
        refine (HR.out _).mono ?_
        rintro e w2 ⟨B2, he, hb2, hl2, m2⟩
        obtain rfl : B2 = ys := hb2 rfl
        unfold refOf at he
        simp only at he
        subst he
        have M2 := Lib.hid m2
        obtain ⟨bA, bB⟩ := two_boxes m2
        obtain ⟨a0, a1, a2, a3⟩ := bA.two
        obtain ⟨bA2, bB2⟩ := set_both bA bB (by omega) (.string (strOf B2)) (.int .i64 0)
        obtain ⟨c0, c1, c2, c3⟩ := bA2.two
        have BB2 := Lib.hid bB2
        have HM2 : Hid (Mods Nil w ((w2.setCell ⟨w.heap.size, 0, none⟩ (.string (strOf B2))).setCell ⟨w.heap.size, 1, none⟩ (.int .i64 0))) := (((((Mods.refl Nil w).alloc _).alloc _).trans M2.out).setNew (Nat.le_refl _) _).setNew (Nat.le_refl _) _
        clear m2 bA bB bA2 bB2
        go_wp2_with fail
        refine (HR2.out _).mono ?_
        rintro e w4 ⟨B4, he, hb4, hl4, m4⟩
        unfold refOf at he
        subst he
        obtain ⟨f0, f1, f2, f3⟩ := (BB2.out.mods m4 (fun h => h)).two
        have HM4 := Lib.hid (HM2.out.trans m4)
        have HB4 := Lib.hid hb4
        clear m4 hb4
        go_wp2_with fail
        exact bodyPost_ret (v := .tuple #[.agg #[.string (strOf B4), .int .i64 (readRaw 0 B2 (q : Int)).1], .string (strOf (readRaw 0 B2 (q : Int)).2.2)]) (by simp [results, Try.results21, go_sem, f0, f1]) rfl ⟨B4, rfl, HB4.out, Nat.le_trans hl4 hl2, (HM4.out.setNew (Nat.le_succ _) _).setNew (Nat.le_succ _) _⟩
  · rw [if_pos he]
    have hb3 : (e1 == 0) = false := by simp [he]
    have hb4 : (e1 != 0) = true := by simp [he]
    go_enter Try.func21, Try.ntmps21
    go_wp2_with fail
    refine (HR.out _).mono ?_
    rintro e w2 ⟨B2, he1, hb2, hl2, m2⟩
    unfold refOf at he1
    simp only at he1
    subst he1
    have M2 := Lib.hid m2
    obtain ⟨bA, bB⟩ := two_boxes m2
    obtain ⟨a0, a1, a2, a3⟩ := bA.two
    obtain ⟨b0, b1, b2, b3⟩ := bB.two
    have HE := Lib.hid he
    clear m2 bA bB hb2 he
    go_wp2_with fail
    exact bodyPost_ret (v := .tuple #[.agg #[.string (strOf B2), .int .i64 e1], .string ⟨#[]⟩]) (by simp [results, Try.results21, go_sem, b0, b1]) rfl ⟨B2, rfl, fun h => absurd h HE.out, hl2, ((((((Mods.refl Nil w).alloc _).alloc _).trans M2.out).setNew (Nat.le_refl _) _).setNew (Nat.le_refl _) _ |>.setNew (Nat.le_succ _) _).setNew (Nat.le_succ _) _⟩
end Go.Proofs.Ytkamikmamhbjcaa
