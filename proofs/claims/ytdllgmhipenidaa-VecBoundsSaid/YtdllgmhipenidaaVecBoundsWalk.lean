/- VecBounds' walk. -/
import Derived.Test.YtdllgmhipenidaaIn9
import Derived.Test.YtdllgmhipenidaaAwake09
namespace Go.Proofs.Ytdllgmhipenidaa
set_option maxRecDepth 1000000
open Go.RowKit
set_option linter.unusedVariables false
set_option linter.unusedSimpArgs false

set_option maxHeartbeats 6400000 in
theorem vecBounds_walk (w : World) {A : Option Addr} {c n : Nat} {l : List RowN} (hn : l.length = n) (hs : Sl w A c (l.map RowN.val)) (hr : ∀ r ∈ l, r.inn w) :
    Calls Try.prog 6 #[.slice A n c] w fun e w' => e = .returned (.bool true) ∧ Mods Nil w w' := by
  have HS := Lib.hid hs
  have HN := Lib.hid hn
  have HR := Lib.hid hr
  clear hn hs hr
  by_cases h10 : 10 < n
  · have h10I : decide ((10 : Int) < (n : Int)) = true := by simp; omega
    go_enter Try.func6, Try.ntmps6
    go_wp2_with (go_at_call 42; refine (awake9_any _).mono ?_; rintro e w1 ⟨rfl, m1⟩; have M1 := Lib.hid m1; clear m1)
    go_ret
    exact ⟨rfl, M1.out⟩
  have h10I : decide ((10 : Int) < (n : Int)) = false := by simp; omega
  go_enter Try.func6, Try.ntmps6
  go_wp2_with (go_at_call 42; refine (awake9_any _).mono ?_; rintro e w1 ⟨rfl, m1⟩; have M1 := Lib.hid m1; clear m1)
  go_loopw [4] (fun x wr => ∃ j : Nat, j ≤ n ∧ x = .int .i64 (j : Int) ∧ (∀ i (h : i < l.length), i < j → l[i].xs.length ≤ 40) ∧ Mods Nil w wr) (fun x _ => n - (intOf x).toNat)
  case atStart => exact ⟨0, Nat.zero_le _, rfl, fun i h h2 => by omega, M1.out⟩
  case round =>
    clear M1
    obtain ⟨j, hj, rfl, hz, hmo⟩ := hrel
    have HZ := Lib.hid hz
    have HMO := Lib.hid hmo
    clear hz hmo
    by_cases hlt : j < n
    · have hjI : (j : Int) < (n : Int) := by omega
      have hjl : j < l.length := by rw [HN.out]; exact hlt
      obtain ⟨b, off, rfl, hb, hc⟩ := rowN_at (HS.out.mods HMO.out (fun _ _ h => h)) hjl
      obtain ⟨q, hq⟩ : ∃ q, l[j].xs.length = q := ⟨_, rfl⟩
      rw [hq] at hc
      have HQ := Lib.hid (show ∀ (h : j < l.length), l[j].xs.length = q from fun _ => hq)
      generalize l[j].A = A2 at hc
      generalize l[j].c = c2 at hc
      clear hq hjl hb
      by_cases h40 : 40 < q
      · have h40I : decide ((40 : Int) < (q : Int)) = true := by simp; omega
        go_wp2_with fail
        go_ret
        exact ⟨rfl, HMO.out⟩
      · have h40I : decide ((40 : Int) < (q : Int)) = false := by simp; omega
        go_wp2_with fail
        exact ⟨⟨j + 1, by omega, by go_num, fun i h h2 => by
          by_cases e : i = j
          · subst e; rw [HQ.out h]; omega
          · exact HZ.out i h (by omega), HMO.out⟩, by simp [intOf]; omega⟩
    · obtain rfl : j = n := by omega
      have hle : ∀ r ∈ l, r.xs.length ≤ 40 := fun r hr => by
        obtain ⟨i, hi, rfl⟩ := List.getElem_of_mem hr
        exact HZ.out i hi (by rw [← HN.out]; exact hi)
      have HL := Lib.hid hle
      obtain ⟨zs, hzs⟩ : ∃ s, minL l = s := ⟨_, rfl⟩
      obtain ⟨xs, hxs⟩ : ∃ s, maxL l = s := ⟨_, rfl⟩
      have hz6 : zs.length ≤ 40 := by rw [← hzs]; exact minL_length 40 hle
      have hx6 : xs.length ≤ 40 := by rw [← hxs]; exact maxL_length 40 hle
      have HOK := Lib.hid (fun V (hV : Mods Nil w V) r (hr : r ∈ l) => ((HR.out r hr).mods hV).ok (by have := hle r hr; omega))
      have HMIN : Hid (∀ V, Mods Nil w V → Calls Try.prog 55 #[.slice A j c] V (ToldV V zs)) := Lib.hid (fun V hV => by have h := tmin HN.out (by omega) (HS.out.mods hV (fun _ _ h => h)) (HOK.out V hV); rw [hzs] at h; exact h)
      have HMAX : Hid (∀ V, Mods Nil w V → Calls Try.prog 57 #[.slice A j c] V (ToldV V xs)) := Lib.hid (fun V hV => by have h := tmax HN.out (by omega) (HS.out.mods hV (fun _ _ h => h)) (HOK.out V hV); rw [hxs] at h; exact h)
      have HRMIN : Hid (∀ V, Mods Nil w V → Calls Try.prog 56 #[.slice A j c, .bool false] V (ToldV V zs)) := Lib.hid (fun V hV => by have h := trmin HN.out (by omega) (HS.out.mods hV (fun _ _ h => h)) (HOK.out V hV); rw [hzs] at h; exact h)
      have HRMAX : Hid (∀ V, Mods Nil w V → Calls Try.prog 56 #[.slice A j c, .bool true] V (ToldV V xs)) := Lib.hid (fun V hV => by have h := trmax HN.out (by omega) (HS.out.mods hV (fun _ _ h => h)) (HOK.out V hV); rw [hxs] at h; exact h)
      have HRSM : Hid (∀ V A c B d n m zs, zs.length ≤ 40 → zs.length = n → zs.length = m → Sl V A c (nums zs) → Sl V B d (nums zs) → Calls Try.prog 48 #[.slice A n c, .slice B m d] V fun e w' => e = .returned (.bool true) ∧ Mods Nil V w') := Lib.hid (fun V A c B d n m zs h1 h2 h3 h4 h5 => by have h := r9same_any V h2 (by omega) h4 h3 h5; rw [decide_eq_true rfl] at h; exact h)
      clear hzs hxs hle HZ HL HOK
      go_wp2_with (first
        | (go_at_call 48; have hx := M6.out; clear hx; refine (HRSM.out _ _ _ _ _ _ _ xs hx6 L5.out L6.out S56.out S6.out).mono ?_; rintro e w7 ⟨rfl, m7⟩; have M7 := Lib.hid (M6.out.trans m7); clear m7)
        | (go_at_call 56; have hx := M5.out; clear hx; refine (HRMAX.out _ M5.out).mono ?_; rintro e w6 ⟨A6, c6, n6, rfl, l6, s6, m6⟩; have M6 := Lib.hid (M5.out.trans m6); have S6 := Lib.hid s6; have L6 := Lib.hid l6; have S56 := Lib.hid (S5.out.mods m6 (fun _ _ h => h)); clear m6 l6 s6)
        | (go_at_call 57; refine (HMAX.out _ M4.out).mono ?_; rintro e w5 ⟨A5, c5, n5, rfl, l5, s5, m5⟩; have M5 := Lib.hid (M4.out.trans m5); have S5 := Lib.hid s5; have L5 := Lib.hid l5; clear m5 l5 s5)
        | (go_at_call 48; refine (HRSM.out _ _ _ _ _ _ _ zs hz6 L2.out L3.out S23.out S3.out).mono ?_; rintro e w4 ⟨rfl, m4⟩; have M4 := Lib.hid (M3.out.trans m4); clear m4)
        | (go_at_call 56; refine (HRMIN.out _ M2.out).mono ?_; rintro e w3 ⟨A3, c3, n3, rfl, l3, s3, m3⟩; have M3 := Lib.hid (M2.out.trans m3); have S3 := Lib.hid s3; have L3 := Lib.hid l3; have S23 := Lib.hid (S2.out.mods m3 (fun _ _ h => h)); clear m3 l3 s3)
        | (go_at_call 55; refine (HMIN.out _ HMO.out).mono ?_; rintro e w2 ⟨A2, c2, n2, rfl, l2, s2, m2⟩; have M2 := Lib.hid (HMO.out.trans m2); have S2 := Lib.hid s2; have L2 := Lib.hid l2; clear m2 l2 s2))
      go_ret
      exact ⟨rfl, M7.out⟩
end Go.Proofs.Ytdllgmhipenidaa
