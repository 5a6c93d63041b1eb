/- VecTells' walk. -/
import Derived.Test.YtdllgmhipenidaaIn9
import Derived.Test.YtdllgmhipenidaaAwake09
namespace Go.Proofs.Ytdllgmhipenidaa
set_option maxRecDepth 1000000
open Go.RowKit
set_option linter.unusedVariables false
set_option linter.unusedSimpArgs false

theorem beq_bool_self (b : Bool) : (b == b) = true := by cases b <;> rfl
set_option maxHeartbeats 6400000 in
theorem vecTells_walk (w : World) {A : Option Addr} {c n : Nat} {xs : List Nat} (hn : xs.length = n) (hs : Sl w A c (nums xs)) (hx : ∀ n ∈ xs, n < 18446744073709551616) {B : Option Addr} {d m : Nat} {ys : List Nat} (hm : ys.length = m) (hy : Sl w B d (nums ys)) (hyb : ∀ n ∈ ys, n < 18446744073709551616) {i : Int} (wf : (Lit.int .i64 i).wf = true) :
    Calls Try.prog 5 #[.slice A n c, .slice B m d, .int .i64 i] w fun e w' => e = .returned (.bool true) ∧ Mods Nil w w' := by
  have HS := Lib.hid hs
  have HY := Lib.hid hy
  have HN := Lib.hid hn
  have HM := Lib.hid hm
  have HBX := Lib.hid (Bd.of hx)
  have HBY := Lib.hid (Bd.of hyb)
  clear hn hs hx hm hy hyb wf
  by_cases h40 : 40 < n
  · have h40I : decide ((40 : Int) < (n : Int)) = true := by simp; omega
    go_enter Try.func5, Try.ntmps5
    go_wp2_with (go_at_call 42; refine (awake9_any _).mono ?_; rintro e w1 ⟨rfl, m1⟩; have M1 := Lib.hid m1; clear m1)
    go_ret
    exact ⟨rfl, M1.out⟩
  have h40I : decide ((40 : Int) < (n : Int)) = false := by simp; omega
  by_cases h41 : 40 < m
  · have h41I : decide ((40 : Int) < (m : Int)) = true := by simp; omega
    go_enter Try.func5, Try.ntmps5
    go_wp2_with (go_at_call 42; refine (awake9_any _).mono ?_; rintro e w1 ⟨rfl, m1⟩; have M1 := Lib.hid m1; clear m1)
    go_ret
    exact ⟨rfl, M1.out⟩
  have h41I : decide ((40 : Int) < (m : Int)) = false := by simp; omega
  obtain ⟨s, hs⟩ : ∃ s, sumV xs = s := ⟨_, rfl⟩
  obtain ⟨t, ht⟩ : ∃ s, sumE xs = s := ⟨_, rfl⟩
  obtain ⟨er, her⟩ : ∃ s, lessE xs ys = s := ⟨_, rfl⟩
  obtain ⟨le, hle⟩ : ∃ s, leB xs ys = s := ⟨_, rfl⟩
  obtain ⟨ge, hge⟩ : ∃ s, leB ys xs = s := ⟨_, rfl⟩
  obtain ⟨ai, hai⟩ : ∃ s, atI xs i = s := ⟨_, rfl⟩
  obtain ⟨zs, hzs⟩ : ∃ s, lessL xs ys = s := ⟨_, rfl⟩
  obtain ⟨cs, hcs⟩ : ∃ s, cut xs = s := ⟨_, rfl⟩
  have hz6 : zs.length ≤ 40 := by rw [← hzs]; have := lessL_length xs ys; have := HN.out; omega
  have hc6 : cs.length ≤ 40 := by rw [← hcs]; have := cut_le xs; have := HN.out; omega
  have HSUM : Hid (∀ V, Mods Nil w V → Calls Try.prog 43 #[.slice A n c] V fun e w' => e = .returned (.tuple #[.int .u64 (s : Int), .int .i64 t]) ∧ Mods Nil V w') := Lib.hid (fun V hV => by have h := sum_any V HN.out (by omega) HBX.out (HS.out.mods hV (fun _ _ h => h)); rw [hs, ht] at h; exact h)
  have HRSUM : Hid (∀ V, Mods Nil w V → Calls Try.prog 44 #[.slice A n c] V fun e w' => e = .returned (.tuple #[.int .u64 (s : Int), .int .i64 t]) ∧ Mods Nil V w') := Lib.hid (fun V hV => by have h := r9sum_any V HN.out (by omega) HBX.out (HS.out.mods hV (fun _ _ h => h)); rw [hs, ht] at h; exact h)
  have HLESS : Hid (∀ V, Mods Nil w V → Calls Try.prog 45 #[.slice A n c, .slice B m d] V (ToldE V zs er)) := Lib.hid (fun V hV => by have h := tless HN.out (by omega) HBX.out (HS.out.mods hV (fun _ _ h => h)) HM.out (by omega) (HY.out.mods hV (fun _ _ h => h)); rw [hzs, her] at h; exact h)
  have HRLESS : Hid (∀ V, Mods Nil w V → Calls Try.prog 46 #[.slice A n c, .slice B m d] V (ToldE V zs er)) := Lib.hid (fun V hV => by have h := trless HN.out (by omega) HBX.out (HS.out.mods hV (fun _ _ h => h)) HM.out (by omega) (HY.out.mods hV (fun _ _ h => h)); rw [hzs, her] at h; exact h)
  have HRLE : Hid (∀ V, Mods Nil w V → Calls Try.prog 47 #[.slice A n c, .slice B m d] V fun e w' => e = .returned (.bool le) ∧ Mods Nil V w') := Lib.hid (fun V hV => by have h := r9le_any V HN.out (by omega) (HS.out.mods hV (fun _ _ h => h)) HM.out (HY.out.mods hV (fun _ _ h => h)); rw [hle] at h; exact h)
  have HRGE : Hid (∀ V, Mods Nil w V → Calls Try.prog 47 #[.slice B m d, .slice A n c] V fun e w' => e = .returned (.bool ge) ∧ Mods Nil V w') := Lib.hid (fun V hV => by have h := r9le_any V HM.out (by omega) (HY.out.mods hV (fun _ _ h => h)) HN.out (HS.out.mods hV (fun _ _ h => h)); rw [hge] at h; exact h)
  have HLE : Hid (∀ V, Mods Nil w V → Calls Try.prog 49 #[.slice A n c, .slice B m d] V fun e w' => e = .returned (.bool le) ∧ Mods Nil V w') := Lib.hid (fun V hV => by have h := le_any V HN.out (by omega) (HS.out.mods hV (fun _ _ h => h)) HM.out (HY.out.mods hV (fun _ _ h => h)); rw [hle] at h; exact h)
  have HSM : Hid (∀ V, Mods Nil w V → Calls Try.prog 50 #[.slice A n c, .slice B m d] V fun e w' => e = .returned (.bool (le && ge)) ∧ Mods Nil V w') := Lib.hid (fun V hV => by have h := same_any V HN.out (by omega) (HS.out.mods hV (fun _ _ h => h)) HM.out (by omega) (HY.out.mods hV (fun _ _ h => h)); rw [sameB_le, hle, hge] at h; exact h)
  have HAT : Hid (∀ V, Mods Nil w V → Calls Try.prog 51 #[.slice A n c, .int .i64 i] V fun e w' => e = .returned (.int .u64 (ai : Int)) ∧ V = w') := Lib.hid (fun V hV => by have h := vat_any V HN.out (HS.out.mods hV (fun _ _ h => h)) i; rw [hai] at h; exact h)
  have HRAT : Hid (∀ V, Mods Nil w V → Calls Try.prog 52 #[.slice A n c, .int .i64 i] V fun e w' => e = .returned (.int .u64 (ai : Int)) ∧ V = w') := Lib.hid (fun V hV => by have h := r9at_any V HN.out (HS.out.mods hV (fun _ _ h => h)) i; rw [hai] at h; exact h)
  have HCUT : Hid (∀ V, Mods Nil w V → Calls Try.prog 53 #[.slice A n c] V (ToldV V cs)) := Lib.hid (fun V hV => by have h := tcut HN.out (by omega) (HS.out.mods hV (fun _ _ h => h)); rw [hcs] at h; exact h)
  have HRCUT : Hid (∀ V, Mods Nil w V → Calls Try.prog 54 #[.slice A n c] V (ToldV V cs)) := Lib.hid (fun V hV => by have h := trcut HN.out (by omega) (HS.out.mods hV (fun _ _ h => h)); rw [hcs] at h; exact h)
  have HRSM : Hid (∀ V A c B d n m zs, zs.length ≤ 40 → zs.length = n → zs.length = m → Sl V A c (nums zs) → Sl V B d (nums zs) → Calls Try.prog 48 #[.slice A n c, .slice B m d] V fun e w' => e = .returned (.bool true) ∧ Mods Nil V w') := Lib.hid (fun V A c B d n m zs h1 h2 h3 h4 h5 => by have h := r9same_any V h2 (by omega) h4 h3 h5; rw [decide_eq_true rfl] at h; exact h)
  clear hs ht her hle hge hai hzs hcs HS HY HN HM HBX HBY
  go_enter Try.func5, Try.ntmps5
  have hb1 := beq_bool_self le
  have hb2 := beq_bool_self (le && ge)
  cases le <;> cases ge <;>
  go_wp2_with (first
    | (go_at_call 48; have hx := M14.out; clear hx; refine (HRSM.out _ _ _ _ _ _ _ cs hc6 L13.out L14.out S13.out S14.out).mono ?_; rintro e w15 ⟨rfl, m15⟩; have M15 := Lib.hid (M14.out.trans m15); clear m15)
    | (go_at_call 54; refine (HRCUT.out _ M13.out).mono ?_; rintro e w14 ⟨A14, c14, n14, rfl, l14, s14, m14⟩; have M14 := Lib.hid (M13.out.trans m14); have S14 := Lib.hid s14; have L14 := Lib.hid l14; have S13 := Lib.hid (S12.out.mods m14 (fun _ _ h => h)); have L13 := L12; clear m14 l14 s14)
    | (go_at_call 53; refine (HCUT.out _ M10.out).mono ?_; rintro e w13 ⟨A12, c12, n12, rfl, l12, s12, m12⟩; have M13 := Lib.hid (M10.out.trans m12); have S12 := Lib.hid s12; have L12 := Lib.hid l12; clear m12 l12 s12)
    | (go_at_call 52; refine (HRAT.out _ M10.out).mono ?_; rintro e w12 ⟨rfl, rfl⟩)
    | (go_at_call 51; refine (HAT.out _ M10.out).mono ?_; rintro e w11 ⟨rfl, rfl⟩)
    | (go_at_call 50; refine (HSM.out _ M9.out).mono ?_; rintro e w10 ⟨rfl, m10⟩; have M10 := Lib.hid (M9.out.trans m10); clear m10)
    | (go_at_call 49; refine (HLE.out _ M8.out).mono ?_; rintro e w9 ⟨rfl, m9⟩; have M9 := Lib.hid (M8.out.trans m9); clear m9)
    | (go_at_call 48; refine (HRSM.out _ _ _ _ _ _ _ zs hz6 L4.out L5.out S47.out S57.out).mono ?_; rintro e w8 ⟨rfl, m8⟩; have M8 := Lib.hid (M7.out.trans m8); clear m8)
    | (go_at_call 47; have hx := M6.out; clear hx; refine (HRGE.out _ M6.out).mono ?_; rintro e w7 ⟨rfl, m7⟩; have M7 := Lib.hid (M6.out.trans m7); have S47 := Lib.hid (S46.out.mods m7 (fun _ _ h => h)); have S57 := Lib.hid (S56.out.mods m7 (fun _ _ h => h)); clear m7)
    | (go_at_call 47; refine (HRLE.out _ M5.out).mono ?_; rintro e w6 ⟨rfl, m6⟩; have M6 := Lib.hid (M5.out.trans m6); have S46 := Lib.hid (S45.out.mods m6 (fun _ _ h => h)); have S56 := Lib.hid (S5.out.mods m6 (fun _ _ h => h)); clear m6)
    | (go_at_call 46; refine (HRLESS.out _ M4.out).mono ?_; rintro e w5 ⟨A5, c5, n5, rfl, l5, s5, m5⟩; have M5 := Lib.hid (M4.out.trans m5); have S45 := Lib.hid (S4.out.mods m5 (fun _ _ h => h)); have S5 := Lib.hid s5; have L5 := Lib.hid l5; clear m5 l5 s5)
    | (go_at_call 45; refine (HLESS.out _ M3.out).mono ?_; rintro e w4 ⟨A4, c4, n4, rfl, l4, s4, m4⟩; have M4 := Lib.hid (M3.out.trans m4); have S4 := Lib.hid s4; have L4 := Lib.hid l4; clear m4 l4 s4)
    | (go_at_call 44; refine (HRSUM.out _ M2.out).mono ?_; rintro e w3 ⟨rfl, m3⟩; have M3 := Lib.hid (M2.out.trans m3); clear m3)
    | (go_at_call 43; refine (HSUM.out _ M1.out).mono ?_; rintro e w2 ⟨rfl, m2⟩; have M2 := Lib.hid (M1.out.trans m2); clear m2)
    | (go_at_call 42; refine (awake9_any _).mono ?_; rintro e w1 ⟨rfl, m1⟩; have M1 := Lib.hid m1; clear m1))
  all_goals
    go_ret
    exact ⟨rfl, M15.out⟩
end Go.Proofs.Ytdllgmhipenidaa
