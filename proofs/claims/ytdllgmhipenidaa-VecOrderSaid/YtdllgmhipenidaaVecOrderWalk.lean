/- VecOrder's walk. -/
import Derived.Test.YtdllgmhipenidaaIn9
import Derived.Test.YtdllgmhipenidaaAwake09
import Derived.Test.YtdllgmhipenidaaVecLessWalk
namespace Go.Proofs.Ytdllgmhipenidaa
set_option maxRecDepth 1000000
open Go.RowKit
set_option linter.unusedVariables false
set_option linter.unusedSimpArgs false

theorem leB_min {A B : Option Addr} {c d : Nat} {xs ys zs : List Nat} : leB zs (minL [⟨A, c, xs⟩, ⟨B, d, ys⟩]) = (leB zs xs && leB zs ys) := by
  rw [Bool.eq_iff_iff, Bool.and_eq_true, leB_iff, leB_iff, leB_iff]
  constructor
  · intro h
    exact ⟨fun i => by have := h i; rw [minL_two] at this; omega, fun i => by have := h i; rw [minL_two] at this; omega⟩
  · rintro ⟨h1, h2⟩ i
    rw [minL_two]
    have := h1 i
    have := h2 i
    omega
theorem leB_max {A B : Option Addr} {c d : Nat} {xs ys zs : List Nat} : leB (maxL [⟨A, c, xs⟩, ⟨B, d, ys⟩]) zs = (leB xs zs && leB ys zs) := by
  rw [Bool.eq_iff_iff, Bool.and_eq_true, leB_iff, leB_iff, leB_iff]
  constructor
  · intro h
    exact ⟨fun i => by have := h i; rw [maxL_two] at this; omega, fun i => by have := h i; rw [maxL_two] at this; omega⟩
  · rintro ⟨h1, h2⟩ i
    rw [maxL_two]
    have := h1 i
    have := h2 i
    omega
theorem beq_bool_self9 (b : Bool) : (b == b) = true := by cases b <;> rfl
set_option maxHeartbeats 25600000 in
theorem vecOrder_walk (w : World) {A : Option Addr} {c1 n : Nat} {xs : List Nat} (hn : xs.length = n) (hs : Sl w A c1 (nums xs)) (hx : ∀ n ∈ xs, n < 18446744073709551616) {B : Option Addr} {c2 m : Nat} {ys : List Nat} (hm : ys.length = m) (hy : Sl w B c2 (nums ys)) (hyb : ∀ n ∈ ys, n < 18446744073709551616) {C : Option Addr} {c3 k : Nat} {zs : List Nat} (hk : zs.length = k) (hz : Sl w C c3 (nums zs)) (hzb : ∀ n ∈ zs, n < 18446744073709551616) :
    Calls Try.prog 7 #[.slice A n c1, .slice B m c2, .slice C k c3] w fun e w' => e = .returned (.bool true) ∧ Mods Nil w w' := by
  have HS := Lib.hid hs
  have HY := Lib.hid hy
  have HZ := Lib.hid hz
  have HN := Lib.hid hn
  have HM := Lib.hid hm
  have HK := Lib.hid hk
  have HBX := Lib.hid (Bd.of hx)
  have HBY := Lib.hid (Bd.of hyb)
  clear hn hs hx hm hy hyb hk hz hzb
  by_cases h30 : 30 < n
  · have h30I : decide ((30 : Int) < (n : Int)) = true := by simp; omega
    go_enter Try.func7, Try.ntmps7
    go_wp2_with (go_at_call 42; refine (awake9_any _).mono ?_; rintro e w1 ⟨rfl, m1⟩; have M1 := Lib.hid m1; clear m1)
    go_ret
    exact ⟨rfl, M1.out⟩
  have h30I : decide ((30 : Int) < (n : Int)) = false := by simp; omega
  by_cases h31 : 30 < m
  · have h31I : decide ((30 : Int) < (m : Int)) = true := by simp; omega
    go_enter Try.func7, Try.ntmps7
    go_wp2_with (go_at_call 42; refine (awake9_any _).mono ?_; rintro e w1 ⟨rfl, m1⟩; have M1 := Lib.hid m1; clear m1)
    go_ret
    exact ⟨rfl, M1.out⟩
  have h31I : decide ((30 : Int) < (m : Int)) = false := by simp; omega
  by_cases h32 : 30 < k
  · have h32I : decide ((30 : Int) < (k : Int)) = true := by simp; omega
    go_enter Try.func7, Try.ntmps7
    go_wp2_with (go_at_call 42; refine (awake9_any _).mono ?_; rintro e w1 ⟨rfl, m1⟩; have M1 := Lib.hid m1; clear m1)
    go_ret
    exact ⟨rfl, M1.out⟩
  have h32I : decide ((30 : Int) < (k : Int)) = false := by simp; omega
  obtain ⟨ms, hms⟩ : ∃ s, minL [⟨A, c1, xs⟩, ⟨B, c2, ys⟩] = s := ⟨_, rfl⟩
  obtain ⟨ms2, hms2⟩ : ∃ s, maxL [⟨A, c1, xs⟩, ⟨B, c2, ys⟩] = s := ⟨_, rfl⟩
  have hxy : ∀ r ∈ [(⟨A, c1, xs⟩ : RowN), ⟨B, c2, ys⟩], r.xs.length ≤ 30 := fun r hr => by simp at hr; have := HN.out; have := HM.out; rcases hr with rfl | rfl <;> (dsimp only; omega)
  have hm6 : ms.length ≤ 30 := by rw [← hms]; exact minL_length 30 hxy
  have hx6 : ms2.length ≤ 30 := by rw [← hms2]; exact maxL_length 30 hxy
  have hma : leB ms xs = true := leB_iff.2 (fun i => by rw [← hms, minL_two]; omega)
  have hmb : leB ms ys = true := leB_iff.2 (fun i => by rw [← hms, minL_two]; omega)
  have hax : leB xs ms2 = true := leB_iff.2 (fun i => by rw [← hms2, maxL_two]; omega)
  have hbx : leB ys ms2 = true := leB_iff.2 (fun i => by rw [← hms2, maxL_two]; omega)
  obtain ⟨p1, hp1⟩ : ∃ s, leB zs xs = s := ⟨_, rfl⟩
  obtain ⟨p2, hp2⟩ : ∃ s, leB zs ys = s := ⟨_, rfl⟩
  obtain ⟨q1, hq1⟩ : ∃ s, leB xs zs = s := ⟨_, rfl⟩
  obtain ⟨q2, hq2⟩ : ∃ s, leB ys zs = s := ⟨_, rfl⟩
  obtain ⟨r1, hr1⟩ : ∃ s, leB xs ys = s := ⟨_, rfl⟩
  obtain ⟨r2, hr2⟩ : ∃ s, leB ys xs = s := ⟨_, rfl⟩
  obtain ⟨cm, hcm⟩ : ∃ s, leB zs ms = s := ⟨_, rfl⟩
  obtain ⟨xc, hxc⟩ : ∃ s, leB ms2 zs = s := ⟨_, rfl⟩
  obtain ⟨sm, hsm⟩ : ∃ s, sameB xs ys = s := ⟨_, rfl⟩
  have ecm : cm = (p1 && p2) := by rw [← hcm, ← hms, leB_min, hp1, hp2]
  have exc : xc = (q1 && q2) := by rw [← hxc, ← hms2, leB_max, hq1, hq2]
  have esm : sm = (r1 && r2) := by rw [← hsm, sameB_le, hr1, hr2]
  have htr : r1 = true → q2 = true → q1 = true := fun h1 h2 => by
    rw [← hq1]
    rw [h1] at hr1
    rw [h2] at hq2
    exact leB_iff.2 (fun i => Nat.le_trans (leB_iff.1 hr1 i) (leB_iff.1 hq2 i))
  have HMIN : Hid (∀ V D, Mods Nil w V → Sl V D 2 [.slice A n c1, .slice B m c2] → Calls Try.prog 55 #[.slice D 2 2] V (ToldV V ms)) := Lib.hid (fun V D hV hc => by
    have h := tmin (l := [⟨A, c1, xs⟩, ⟨B, c2, ys⟩]) (n := 2) rfl (by omega) (two_rows HN.out HM.out hc) (two_ok (HS.out.mods hV (fun _ _ h => h)) (HY.out.mods hV (fun _ _ h => h)) HBX.out HBY.out (by have := HN.out; omega) (by have := HM.out; omega))
    rw [hms] at h
    exact h)
  have HMAX : Hid (∀ V D, Mods Nil w V → Sl V D 2 [.slice A n c1, .slice B m c2] → Calls Try.prog 57 #[.slice D 2 2] V (ToldV V ms2)) := Lib.hid (fun V D hV hc => by
    have h := tmax (l := [⟨A, c1, xs⟩, ⟨B, c2, ys⟩]) (n := 2) rfl (by omega) (two_rows HN.out HM.out hc) (two_ok (HS.out.mods hV (fun _ _ h => h)) (HY.out.mods hV (fun _ _ h => h)) HBX.out HBY.out (by have := HN.out; omega) (by have := HM.out; omega))
    rw [hms2] at h
    exact h)
  have HALL := Lib.hid (And.intro hma (And.intro hmb (And.intro hax (And.intro hbx (And.intro hp1 (And.intro hp2 (And.intro hq1 (And.intro hq2 (And.intro hr1 (And.intro hr2 (And.intro hcm (And.intro hxc hsm))))))))))))
  have HEX := Lib.hid (And.intro ecm (And.intro exc (And.intro esm htr)))
  clear hma hmb hax hbx hp1 hp2 hq1 hq2 hr1 hr2 hcm hxc hsm ecm exc esm htr hms hms2 hxy
  go_enter Try.func7, Try.ntmps7
  go_wp2_with (first
    | (go_at_call 42; refine (awake9_any _).mono ?_; rintro e w1 ⟨rfl, m1⟩; have M1 := Lib.hid m1; clear m1)
    | (go_at_call 57; refine (HMAX.out _ _ (M5.out.alloc _) (build_at (by simp) rfl rfl (by decide))).mono ?_; rintro e w6 ⟨A6, c6, n6, rfl, l6, s6, m6⟩; have M6 := Lib.hid ((M5.out.alloc _).trans m6); have XX := Lib.hid s6; have L6 := Lib.hid l6; have XM := Lib.hid ((S5.out.alloc (.cells #[.slice A n c1, .slice B m c2] 83)).mods m6 (fun _ _ h => h)); clear m6 l6 s6)
    | (go_at_call 55; refine (HMIN.out _ _ (M1.out.alloc _) (build_at (by simp) rfl rfl (by decide))).mono ?_; rintro e w5 ⟨A5, c5, n5, rfl, l5, s5, m5⟩; have M5 := Lib.hid ((M1.out.alloc _).trans m5); have S5 := Lib.hid s5; have L5 := Lib.hid l5; clear m5 l5 s5))
  have XA := Lib.hid (HS.out.mods M6.out (fun _ _ h => h))
  have XB := Lib.hid (HY.out.mods M6.out (fun _ _ h => h))
  have XC := Lib.hid (HZ.out.mods M6.out (fun _ _ h => h))
  have hn6 : n5 ≤ 30 := by rw [← L5.out]; exact hm6
  have hn7 : n6 ≤ 30 := by rw [← L6.out]; exact hx6
  obtain ⟨hma, hmb, hax, hbx, hp1, hp2, hq1, hq2, hr1, hr2, hcm, hxc, hsm⟩ := HALL.out
  have Hma : Hid (∀ V, Mods Nil w6 V → Calls Try.prog 49 #[.slice A5 n5 c5, .slice A n c1] V fun e w' => e = .returned (.bool true) ∧ Mods Nil V w') := Lib.hid (fun V hV => by have h := le_any V L5.out (by omega) (XM.out.mods hV (fun _ _ h => h)) HN.out (XA.out.mods hV (fun _ _ h => h)); rw [hma] at h; exact h)
  have Hmb : Hid (∀ V, Mods Nil w6 V → Calls Try.prog 49 #[.slice A5 n5 c5, .slice B m c2] V fun e w' => e = .returned (.bool true) ∧ Mods Nil V w') := Lib.hid (fun V hV => by have h := le_any V L5.out (by omega) (XM.out.mods hV (fun _ _ h => h)) HM.out (XB.out.mods hV (fun _ _ h => h)); rw [hmb] at h; exact h)
  have Hax : Hid (∀ V, Mods Nil w6 V → Calls Try.prog 49 #[.slice A n c1, .slice A6 n6 c6] V fun e w' => e = .returned (.bool true) ∧ Mods Nil V w') := Lib.hid (fun V hV => by have h := le_any V HN.out (by omega) (XA.out.mods hV (fun _ _ h => h)) L6.out (XX.out.mods hV (fun _ _ h => h)); rw [hax] at h; exact h)
  have Hbx : Hid (∀ V, Mods Nil w6 V → Calls Try.prog 49 #[.slice B m c2, .slice A6 n6 c6] V fun e w' => e = .returned (.bool true) ∧ Mods Nil V w') := Lib.hid (fun V hV => by have h := le_any V HM.out (by omega) (XB.out.mods hV (fun _ _ h => h)) L6.out (XX.out.mods hV (fun _ _ h => h)); rw [hbx] at h; exact h)
  have Hca : Hid (∀ V, Mods Nil w6 V → Calls Try.prog 49 #[.slice C k c3, .slice A n c1] V fun e w' => e = .returned (.bool p1) ∧ Mods Nil V w') := Lib.hid (fun V hV => by have h := le_any V HK.out (by omega) (XC.out.mods hV (fun _ _ h => h)) HN.out (XA.out.mods hV (fun _ _ h => h)); rw [hp1] at h; exact h)
  have Hcb : Hid (∀ V, Mods Nil w6 V → Calls Try.prog 49 #[.slice C k c3, .slice B m c2] V fun e w' => e = .returned (.bool p2) ∧ Mods Nil V w') := Lib.hid (fun V hV => by have h := le_any V HK.out (by omega) (XC.out.mods hV (fun _ _ h => h)) HM.out (XB.out.mods hV (fun _ _ h => h)); rw [hp2] at h; exact h)
  have Hac : Hid (∀ V, Mods Nil w6 V → Calls Try.prog 49 #[.slice A n c1, .slice C k c3] V fun e w' => e = .returned (.bool q1) ∧ Mods Nil V w') := Lib.hid (fun V hV => by have h := le_any V HN.out (by omega) (XA.out.mods hV (fun _ _ h => h)) HK.out (XC.out.mods hV (fun _ _ h => h)); rw [hq1] at h; exact h)
  have Hbc : Hid (∀ V, Mods Nil w6 V → Calls Try.prog 49 #[.slice B m c2, .slice C k c3] V fun e w' => e = .returned (.bool q2) ∧ Mods Nil V w') := Lib.hid (fun V hV => by have h := le_any V HM.out (by omega) (XB.out.mods hV (fun _ _ h => h)) HK.out (XC.out.mods hV (fun _ _ h => h)); rw [hq2] at h; exact h)
  have Hab : Hid (∀ V, Mods Nil w6 V → Calls Try.prog 49 #[.slice A n c1, .slice B m c2] V fun e w' => e = .returned (.bool r1) ∧ Mods Nil V w') := Lib.hid (fun V hV => by have h := le_any V HN.out (by omega) (XA.out.mods hV (fun _ _ h => h)) HM.out (XB.out.mods hV (fun _ _ h => h)); rw [hr1] at h; exact h)
  have Hba : Hid (∀ V, Mods Nil w6 V → Calls Try.prog 49 #[.slice B m c2, .slice A n c1] V fun e w' => e = .returned (.bool r2) ∧ Mods Nil V w') := Lib.hid (fun V hV => by have h := le_any V HM.out (by omega) (XB.out.mods hV (fun _ _ h => h)) HN.out (XA.out.mods hV (fun _ _ h => h)); rw [hr2] at h; exact h)
  have Hcm : Hid (∀ V, Mods Nil w6 V → Calls Try.prog 49 #[.slice C k c3, .slice A5 n5 c5] V fun e w' => e = .returned (.bool cm) ∧ Mods Nil V w') := Lib.hid (fun V hV => by have h := le_any V HK.out (by omega) (XC.out.mods hV (fun _ _ h => h)) L5.out (XM.out.mods hV (fun _ _ h => h)); rw [hcm] at h; exact h)
  have Hxc : Hid (∀ V, Mods Nil w6 V → Calls Try.prog 49 #[.slice A6 n6 c6, .slice C k c3] V fun e w' => e = .returned (.bool xc) ∧ Mods Nil V w') := Lib.hid (fun V hV => by have h := le_any V L6.out (by omega) (XX.out.mods hV (fun _ _ h => h)) HK.out (XC.out.mods hV (fun _ _ h => h)); rw [hxc] at h; exact h)
  have HSM : Hid (∀ V, Mods Nil w6 V → Calls Try.prog 50 #[.slice A n c1, .slice B m c2] V fun e w' => e = .returned (.bool sm) ∧ Mods Nil V w') := Lib.hid (fun V hV => by have h := same_any V HN.out (by omega) (XA.out.mods hV (fun _ _ h => h)) HM.out (by omega) (XB.out.mods hV (fun _ _ h => h)); rw [hsm] at h; exact h)
  obtain ⟨ecm, exc, esm, htr⟩ := HEX.out
  clear hma hmb hax hbx hp1 hp2 hq1 hq2 hr1 hr2 hcm hxc hsm HALL HEX HMIN HMAX XA XB XC XM XX L5 L6 HS HY HZ HN HM HK HBX HBY hm6 hx6
  have M9 : Mods Nil w6 w6 := Mods.refl _ _
  subst ecm
  subst exc
  subst esm
  have hb1 := beq_bool_self9 p2
  have hb2 := beq_bool_self9 q2
  have hb3 := beq_bool_self9 r2
  cases p1 <;> cases q1 <;> cases r1 <;> cases q2 <;> (try simp only [Bool.true_and, Bool.false_and, Bool.and_false, Bool.and_true] at Hcm Hxc HSM) <;> first
    | (exfalso; exact absurd (htr rfl rfl) (by decide))
    | (clear htr
       as_aux_lemma =>
         go_wp2_with (first
           | (go_at_call 50; with_reducible refine (HSM.out _ (by assumption)).mono ?_; rintro e w9 ⟨rfl, m9⟩; have M9 : Mods Nil w6 w9 := Mods.trans (by assumption) m9; clear m9)
           | (go_at_call 49; with_reducible refine (Hma.out _ (by assumption)).mono ?_; rintro e w9 ⟨rfl, m9⟩; have M9 : Mods Nil w6 w9 := Mods.trans (by assumption) m9; clear m9)
           | (go_at_call 49; with_reducible refine (Hmb.out _ (by assumption)).mono ?_; rintro e w9 ⟨rfl, m9⟩; have M9 : Mods Nil w6 w9 := Mods.trans (by assumption) m9; clear m9)
           | (go_at_call 49; with_reducible refine (Hax.out _ (by assumption)).mono ?_; rintro e w9 ⟨rfl, m9⟩; have M9 : Mods Nil w6 w9 := Mods.trans (by assumption) m9; clear m9)
           | (go_at_call 49; with_reducible refine (Hbx.out _ (by assumption)).mono ?_; rintro e w9 ⟨rfl, m9⟩; have M9 : Mods Nil w6 w9 := Mods.trans (by assumption) m9; clear m9)
           | (go_at_call 49; with_reducible refine (Hca.out _ (by assumption)).mono ?_; rintro e w9 ⟨rfl, m9⟩; have M9 : Mods Nil w6 w9 := Mods.trans (by assumption) m9; clear m9)
           | (go_at_call 49; with_reducible refine (Hcb.out _ (by assumption)).mono ?_; rintro e w9 ⟨rfl, m9⟩; have M9 : Mods Nil w6 w9 := Mods.trans (by assumption) m9; clear m9)
           | (go_at_call 49; with_reducible refine (Hac.out _ (by assumption)).mono ?_; rintro e w9 ⟨rfl, m9⟩; have M9 : Mods Nil w6 w9 := Mods.trans (by assumption) m9; clear m9)
           | (go_at_call 49; with_reducible refine (Hbc.out _ (by assumption)).mono ?_; rintro e w9 ⟨rfl, m9⟩; have M9 : Mods Nil w6 w9 := Mods.trans (by assumption) m9; clear m9)
           | (go_at_call 49; with_reducible refine (Hab.out _ (by assumption)).mono ?_; rintro e w9 ⟨rfl, m9⟩; have M9 : Mods Nil w6 w9 := Mods.trans (by assumption) m9; clear m9)
           | (go_at_call 49; with_reducible refine (Hba.out _ (by assumption)).mono ?_; rintro e w9 ⟨rfl, m9⟩; have M9 : Mods Nil w6 w9 := Mods.trans (by assumption) m9; clear m9)
           | (go_at_call 49; with_reducible refine (Hcm.out _ (by assumption)).mono ?_; rintro e w9 ⟨rfl, m9⟩; have M9 : Mods Nil w6 w9 := Mods.trans (by assumption) m9; clear m9)
           | (go_at_call 49; with_reducible refine (Hxc.out _ (by assumption)).mono ?_; rintro e w9 ⟨rfl, m9⟩; have M9 : Mods Nil w6 w9 := Mods.trans (by assumption) m9; clear m9))
         go_ret
         exact ⟨rfl, M6.out.trans M9⟩)
end Go.Proofs.Ytdllgmhipenidaa
