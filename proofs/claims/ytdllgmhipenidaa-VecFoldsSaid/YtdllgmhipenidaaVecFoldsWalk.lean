/- VecFolds' walk. -/
import Derived.Test.YtdllgmhipenidaaIn9
import Derived.Test.YtdllgmhipenidaaAwake09
import Derived.Test.YtdllgmhipenidaaVecLessWalk
import Derived.Deep.RegionHeld
namespace Go.Proofs.Ytdllgmhipenidaa
set_option maxRecDepth 1000000
open Go.RowKit
set_option linter.unusedVariables false
set_option linter.unusedSimpArgs false

theorem maxAt_append (a b : List (List Nat)) (i : Nat) : maxAt (a ++ b) i = max (maxAt a i) (maxAt b i) := by
  induction a with
  | nil => show maxAt b i = max 0 (maxAt b i); omega
  | cons x r ih => show max (vat x i) (maxAt (r ++ b) i) = max (max (vat x i) (maxAt r i)) (maxAt b i); rw [ih]; omega
theorem minAt_append : ∀ (a b : List (List Nat)) (i : Nat), a ≠ [] → b ≠ [] → minAt (a ++ b) i = min (minAt a i) (minAt b i)
  | [], _, _, h, _ => absurd rfl h
  | [x], [], _, _, h => absurd rfl h
  | [x], y :: r, i, _, _ => rfl
  | x :: y :: r, b, i, _, hb => by
    show min (vat x i) (minAt ((y :: r) ++ b) i) = min (min (vat x i) (minAt (y :: r) i)) (minAt b i)
    rw [minAt_append (y :: r) b i (by simp) hb]; omega
theorem rowsOf_append (a b : List RowN) : rowsOf (a ++ b) = rowsOf a ++ rowsOf b := by simp [rowsOf]
theorem rowsOf_ne {a : List RowN} (h : a ≠ []) : rowsOf a ≠ [] := by simpa [rowsOf] using h
theorem split_max (l : List RowN) (k i : Nat) : maxAt (rowsOf l) i = max (maxAt (rowsOf (l.take k)) i) (maxAt (rowsOf (l.drop k)) i) := by
  rw [← maxAt_append, ← rowsOf_append, List.take_append_drop]
theorem take_ne {l : List RowN} {k : Nat} (h0 : 0 < k) (hk : k < l.length) : l.take k ≠ [] := fun e => by
  have := congrArg List.length e
  rw [List.length_take, List.length_nil] at this
  omega
theorem drop_ne {l : List RowN} {k : Nat} (hk : k < l.length) : l.drop k ≠ [] := fun e => by
  have := congrArg List.length e
  rw [List.length_drop, List.length_nil] at this
  omega
theorem split_min (l : List RowN) {k : Nat} (h0 : 0 < k) (hk : k < l.length) (i : Nat) : minAt (rowsOf l) i = min (minAt (rowsOf (l.take k)) i) (minAt (rowsOf (l.drop k)) i) := by
  rw [← minAt_append _ _ _ (rowsOf_ne (take_ne h0 hk)) (rowsOf_ne (drop_ne hk)), ← rowsOf_append, List.take_append_drop]
theorem turn_max (l : List RowN) (k i : Nat) : maxAt (rowsOf (l.drop k ++ l.take k)) i = maxAt (rowsOf l) i := by
  rw [rowsOf_append, maxAt_append, split_max l k]; omega
theorem turn_min (l : List RowN) {k : Nat} (hk : k < l.length) (i : Nat) : minAt (rowsOf (l.drop k ++ l.take k)) i = minAt (rowsOf l) i := by
  rcases Nat.eq_zero_or_pos k with rfl | h0
  · simp
  · rw [rowsOf_append, minAt_append _ _ _ (rowsOf_ne (drop_ne hk)) (rowsOf_ne (take_ne h0 hk)), split_min l h0 hk]; omega
theorem bd_rows {l : List RowN} (h : ∀ r ∈ l, Bd r.xs) : ∀ x ∈ rowsOf l, Bd x := fun x hx => by
  simp [rowsOf] at hx
  obtain ⟨r, hr, rfl⟩ := hx
  exact h r hr
theorem bd_minL {l : List RowN} (h : ∀ r ∈ l, Bd r.xs) : Bd (minL l) := fun i => by rw [vat_minL]; exact minAt_lt (bd_rows h) i
theorem bd_maxL {l : List RowN} (h : ∀ r ∈ l, Bd r.xs) : Bd (maxL l) := fun i => by rw [vat_maxL]; exact maxAt_lt (bd_rows h) i
theorem infoRow64 : (Try.prog.info? 83).map (fun i => (i.zero, i.size, i.bytes)) = some (some (.slice none 0 0), 1, 24) := by kernel_rfl
theorem slice_to_rows {A : Option Addr} {n c j : Nat} (hj : j ≤ c) (W : World) : (Instr.slice 92 (.slice A n c) none (some (.int .i64 (j : Int))) none).run Try.prog W = .ok (.slice A j c) W := by
  rw [run_slice_h (P := Try.prog) W _ A n c (by exact Try.underlying92) .i64 (j : Int) (by omega) (by omega)]
  rw [sizeRow]
  cases A <;> simp [Result.andThen, sliced, Addr.add]
theorem slice_at_rows {A : Option Addr} {n c k : Nat} (hj : k ≤ n) (hA : A ≠ none) (W : World) : (Instr.slice 92 (.slice A n c) (some (.int .i64 (k : Int))) none none).run Try.prog W = .ok (.slice (if c = k then A else A.map (·.add k)) (n - k) (c - k)) W := by
  obtain ⟨a, rfl⟩ : ∃ a, A = some a := by cases A with | none => exact absurd rfl hA | some a => exact ⟨a, rfl⟩
  rw [run_slice_l (P := Try.prog) W _ _ n c (by exact Try.underlying92) .i64 (k : Int) (by omega) (by omega), sizeRow]
  simp only [Result.andThen, sliced]
  by_cases hc : c = k <;> simp [hc]
theorem rows_one (l : List RowN) : ∀ u ∈ l.map RowN.val, u.oneCell' = true := by
  intro u hu
  simp at hu
  obtain ⟨r, _, rfl⟩ := hu
  rfl
set_option maxHeartbeats 12800000 in
theorem vecFolds_walk (w : World) {A : Option Addr} {c n : Nat} {l : List RowN} (hn : l.length = n) (hs : Sl w A c (l.map RowN.val)) (hr : ∀ r ∈ l, r.inn w) {b : Int} (wf : (Lit.int .u8 b).wf = true) :
    Calls Try.prog 11 #[.slice A n c, .int .u8 b] w fun e w' => e = .returned (.bool true) ∧ Mods Nil w w' := by
  obtain ⟨i0, hi, hz0, hz1, hz2⟩ := info_parts infoRow64
  have HS := Lib.hid hs
  have HN := Lib.hid hn
  have HR := Lib.hid hr
  obtain ⟨t, rfl⟩ : ∃ y : Nat, b = (y : Int) := ⟨b.toNat, by have := u8_of_wf wf; omega⟩
  have ht : t < 256 := by have := u8_of_wf wf; omega
  have hlc := hs.le
  rw [List.length_map, hn] at hlc
  clear hn hs hr wf
  by_cases h0 : n = 0
  · subst h0
    go_enter Try.func11, Try.ntmps11
    go_wp2_with (go_at_call 42; refine (awake9_any _).mono ?_; rintro e w1 ⟨rfl, m1⟩; have M1 := Lib.hid m1; clear m1)
    go_ret
    exact ⟨rfl, M1.out⟩
  have hn0 : ((n : Int) == 0) = false := by rw [beq_eq_false_iff_ne]; omega
  by_cases h8 : 8 < n
  · have h8I : decide ((8 : Int) < (n : Int)) = true := by simp; omega
    go_enter Try.func11, Try.ntmps11
    go_wp2_with (go_at_call 42; refine (awake9_any _).mono ?_; rintro e w1 ⟨rfl, m1⟩; have M1 := Lib.hid m1; clear m1)
    go_ret
    exact ⟨rfl, M1.out⟩
  have h8I : decide ((8 : Int) < (n : Int)) = false := by simp; omega
  go_enter Try.func11, Try.ntmps11
  go_wp2_with (go_at_call 42; refine (awake9_any _).mono ?_; rintro e w1 ⟨rfl, m1⟩; have M1 := Lib.hid m1; clear m1)
  go_loopw [6] (fun x wr => ∃ j : Nat, j ≤ n ∧ x = .int .i64 (j : Int) ∧ (∀ i (h : i < l.length), i < j → l[i].xs.length ≤ 30) ∧ Mods Nil w wr) (fun x _ => n - (intOf x).toNat)
  case atStart => exact ⟨0, Nat.zero_le _, rfl, fun i h h2 => by omega, M1.out⟩
  case round =>
    clear M1
    obtain ⟨j, hj, rfl, hz, hmo⟩ := hrel
    have HZ := Lib.hid hz
    have HMO := Lib.hid hmo
    clear hz hmo
    by_cases hlt : j < n
    · have hjI : (j : Int) < (n : Int) := by omega
      have hjl : j < l.length := by rw [HN.out]; exact hlt
      obtain ⟨b, off, rfl, hb, hc⟩ := rowN_at (HS.out.mods HMO.out (fun _ _ h => h)) hjl
      obtain ⟨q, hq⟩ : ∃ q, l[j].xs.length = q := ⟨_, rfl⟩
      rw [hq] at hc
      have HQ := Lib.hid (show ∀ (h : j < l.length), l[j].xs.length = q from fun _ => hq)
      generalize l[j].A = A2 at hc
      generalize l[j].c = c2 at hc
      clear hq hjl hb
      by_cases h40 : 30 < q
      · have h40I : decide ((30 : Int) < (q : Int)) = true := by simp; omega
        go_wp2_with fail
        go_ret
        exact ⟨rfl, HMO.out⟩
      · have h40I : decide ((30 : Int) < (q : Int)) = false := by simp; omega
        go_wp2_with fail
        exact ⟨⟨j + 1, by omega, by go_num, fun i h h2 => by
          by_cases e : i = j
          · subst e; rw [HQ.out h]; omega
          · exact HZ.out i h (by omega), HMO.out⟩, by simp [intOf]; omega⟩
    · obtain rfl : j = n := by omega
      have hle : ∀ r ∈ l, r.xs.length ≤ 30 := fun r hr => by
        obtain ⟨i, hi, rfl⟩ := List.getElem_of_mem hr
        exact HZ.out i hi (by rw [← HN.out]; exact hi)
      have HOK := Lib.hid (fun V (hV : Mods Nil w V) r (hr : r ∈ l) => ((HR.out r hr).mods hV).ok (by have := hle r hr; omega))
      have hbd : ∀ r ∈ l, Bd r.xs := fun r hr => (HR.out r hr).bd
      obtain ⟨k, hk⟩ : ∃ k, t % j = k := ⟨_, rfl⟩
      have hkn : k < j := by rw [← hk]; exact Nat.mod_lt _ (by omega)
      have htm : (t : Int).tmod (j : Int) = (k : Int) := by
        rw [Int.tmod_eq_emod_of_nonneg (by omega), ← hk, Int.natCast_emod]
      clear hk
      have hkl : k < l.length := by rw [HN.out]; exact hkn
      have hAn : A ≠ none := by
        obtain ⟨b, off, hA, _⟩ := rowN_at HS.out (j := 0) (by omega)
        rw [hA]; simp
      have HSA := fun W => slice_at_rows (n := j) (c := c) (k := k) (by omega) hAn W
      have HST := fun W => slice_to_rows (A := A) (n := j) (c := c) (j := k) (by omega) W
      have hcut := HS.out.cut (k := k) (by rw [List.length_map]; omega)
      obtain ⟨A1, hA1⟩ : ∃ A1, (if c = k then A else A.map (·.add k)) = A1 := ⟨_, rfl⟩
      have hA1' : (if c = k then A else A.map (fun x => x.add k)) = A1 := hA1
      rw [hA1'] at hcut HSA
      have htk := HS.out.take k
      rw [← List.map_drop] at hcut
      rw [← List.map_take] at htk
      obtain ⟨d, hd⟩ : ∃ d, j - k = d := ⟨_, rfl⟩
      obtain ⟨c1, hc1⟩ : ∃ c1, c - k = c1 := ⟨_, rfl⟩
      rw [hd, hc1] at HSA
      rw [hc1] at hcut
      have hdl : (l.drop k).length = d := by rw [List.length_drop, HN.out, hd]
      have htl : (l.take k).length = k := by rw [List.length_take]; omega
      have hd8 : d ≤ 8 := by omega
      obtain ⟨lo, hlo⟩ : ∃ s, minL l = s := ⟨_, rfl⟩
      obtain ⟨hi2, hhi⟩ : ∃ s, maxL l = s := ⟨_, rfl⟩
      obtain ⟨lt, hlt9⟩ : ∃ s, minL (l.drop k ++ l.take k) = s := ⟨_, rfl⟩
      obtain ⟨ht9, hht⟩ : ∃ s, maxL (l.drop k ++ l.take k) = s := ⟨_, rfl⟩
      have hturn : ∀ r ∈ l.drop k ++ l.take k, r ∈ l := fun r hr => by
        rcases List.mem_append.1 hr with h | h
        · exact List.mem_of_mem_drop h
        · exact List.mem_of_mem_take h
      have hlo6 : lo.length ≤ 30 := by rw [← hlo]; exact minL_length 30 hle
      have hhi6 : hi2.length ≤ 30 := by rw [← hhi]; exact maxL_length 30 hle
      have hlt6 : lt.length ≤ 30 := by rw [← hlt9]; exact minL_length 30 (fun r hr => hle r (hturn r hr))
      have hht6 : ht9.length ≤ 30 := by rw [← hht]; exact maxL_length 30 (fun r hr => hle r (hturn r hr))
      have hs1 : sameB lo lt = true := sameB_iff.2 (fun i => by rw [← hlo, ← hlt9, vat_minL, vat_minL, turn_min l hkl])
      have hs2 : sameB hi2 ht9 = true := sameB_iff.2 (fun i => by rw [← hhi, ← hht, vat_maxL, vat_maxL, turn_max])
      have hs3 : leB lo hi2 = true := leB_iff.2 (fun i => by rw [← hlo, ← hhi, vat_minL, vat_maxL]; exact minAt_le_maxAt _ i)
      have HLO : Hid (∀ V, Mods Nil w V → Calls Try.prog 55 #[.slice A j c] V (ToldV V lo)) := Lib.hid (fun V hV => by have h := tmin HN.out (by omega) (HS.out.mods hV (fun _ _ h => h)) (HOK.out V hV); rw [hlo] at h; exact h)
      have HHI : Hid (∀ V, Mods Nil w V → Calls Try.prog 57 #[.slice A j c] V (ToldV V hi2)) := Lib.hid (fun V hV => by have h := tmax HN.out (by omega) (HS.out.mods hV (fun _ _ h => h)) (HOK.out V hV); rw [hhi] at h; exact h)
      have HLT : Hid (∀ V B e, Mods Nil w V → Sl V B e ((l.drop k ++ l.take k).map RowN.val) → Calls Try.prog 55 #[.slice B (d + k) e] V (ToldV V lt)) := Lib.hid (fun V B e hV hB => by have h := tmin (n := d + k) (by rw [List.length_append, hdl, htl]) (by omega) hB (fun r hr => HOK.out V hV r (hturn r hr)); rw [hlt9] at h; exact h)
      have HHT : Hid (∀ V B e, Mods Nil w V → Sl V B e ((l.drop k ++ l.take k).map RowN.val) → Calls Try.prog 57 #[.slice B (d + k) e] V (ToldV V ht9)) := Lib.hid (fun V B e hV hB => by have h := tmax (n := d + k) (by rw [List.length_append, hdl, htl]) (by omega) hB (fun r hr => HOK.out V hV r (hturn r hr)); rw [hht] at h; exact h)
      have HSM : Hid (∀ V xs ys A c B d n m, xs.length ≤ 30 → ys.length ≤ 30 → sameB xs ys = true → xs.length = n → ys.length = m → Sl V A c (nums xs) → Sl V B d (nums ys) → Calls Try.prog 50 #[.slice A n c, .slice B m d] V fun e w' => e = .returned (.bool true) ∧ Mods Nil V w') := Lib.hid (fun V xs ys A c B d n m h1 h2 h3 h4 h5 h6 h7 => by have h := same_any V h4 (by omega) h6 h5 (by omega) h7; rw [h3] at h; exact h)
      have HLE : Hid (∀ V A c B d n m, lo.length = n → hi2.length = m → Sl V A c (nums lo) → Sl V B d (nums hi2) → Calls Try.prog 49 #[.slice A n c, .slice B m d] V fun e w' => e = .returned (.bool true) ∧ Mods Nil V w') := Lib.hid (fun V A c B d n m h1 h2 h3 h4 => by have h := le_any V h1 (by omega) h3 h2 h4; rw [hs3] at h; exact h)
      have HCUT := Lib.hid hcut
      have HTK := Lib.hid htk
      have HDL := Lib.hid hdl
      have HTL := Lib.hid htl
      -- the rows apart
      obtain ⟨m1, hm1⟩ : ∃ s, minL (l.take k) = s := ⟨_, rfl⟩
      obtain ⟨m2, hm2⟩ : ∃ s, minL (l.drop k) = s := ⟨_, rfl⟩
      obtain ⟨x1, hx1⟩ : ∃ s, maxL (l.take k) = s := ⟨_, rfl⟩
      obtain ⟨x2, hx2⟩ : ∃ s, maxL (l.drop k) = s := ⟨_, rfl⟩
      have htm0 : ∀ r ∈ l.take k, r ∈ l := fun r h => List.mem_of_mem_take h
      have hdm0 : ∀ r ∈ l.drop k, r ∈ l := fun r h => List.mem_of_mem_drop h
      have hm16 : m1.length ≤ 30 := by rw [← hm1]; exact minL_length 30 (fun r hr => hle r (htm0 r hr))
      have hm26 : m2.length ≤ 30 := by rw [← hm2]; exact minL_length 30 (fun r hr => hle r (hdm0 r hr))
      have hx16 : x1.length ≤ 30 := by rw [← hx1]; exact maxL_length 30 (fun r hr => hle r (htm0 r hr))
      have hx26 : x2.length ≤ 30 := by rw [← hx2]; exact maxL_length 30 (fun r hr => hle r (hdm0 r hr))
      have hbm1 : Bd m1 := by rw [← hm1]; exact bd_minL (fun r h => hbd r (htm0 r h))
      have hbm2 : Bd m2 := by rw [← hm2]; exact bd_minL (fun r h => hbd r (hdm0 r h))
      have hbx1 : Bd x1 := by rw [← hx1]; exact bd_maxL (fun r h => hbd r (htm0 r h))
      have hbx2 : Bd x2 := by rw [← hx2]; exact bd_maxL (fun r h => hbd r (hdm0 r h))
      have HM1 : Hid (∀ V, Mods Nil w V → Calls Try.prog 55 #[.slice A k c] V (ToldV V m1)) := Lib.hid (fun V hV => by have h := tmin htl (by omega) (htk.mods hV (fun _ _ h => h)) (fun r hr => HOK.out V hV r (htm0 r hr)); rw [hm1] at h; exact h)
      have HM2 : Hid (∀ V, Mods Nil w V → Calls Try.prog 55 #[.slice A1 d c1] V (ToldV V m2)) := Lib.hid (fun V hV => by have h := tmin hdl (by omega) (hcut.mods hV (fun _ _ h => h)) (fun r hr => HOK.out V hV r (hdm0 r hr)); rw [hm2] at h; exact h)
      have HX1 : Hid (∀ V, Mods Nil w V → Calls Try.prog 57 #[.slice A k c] V (ToldV V x1)) := Lib.hid (fun V hV => by have h := tmax htl (by omega) (htk.mods hV (fun _ _ h => h)) (fun r hr => HOK.out V hV r (htm0 r hr)); rw [hx1] at h; exact h)
      have HX2 : Hid (∀ V, Mods Nil w V → Calls Try.prog 57 #[.slice A1 d c1] V (ToldV V x2)) := Lib.hid (fun V hV => by have h := tmax hdl (by omega) (hcut.mods hV (fun _ _ h => h)) (fun r hr => HOK.out V hV r (hdm0 r hr)); rw [hx2] at h; exact h)
      have HM3 : Hid (∀ V A c n B d m C, m1.length = n → m2.length = m → Sl V A c (nums m1) → Sl V B d (nums m2) → Sl V C 2 [.slice A n c, .slice B m d] → 0 < k → Calls Try.prog 55 #[.slice C 2 2] V fun e w' => ∃ m3, m3.length ≤ 30 ∧ sameB lo m3 = true ∧ ToldV V m3 e w') := Lib.hid (fun V A c n B d m C h1 h2 h3 h4 h5 hk0 => (tmin (l := [⟨A, c, m1⟩, ⟨B, d, m2⟩]) (n := 2) rfl (by omega) (two_rows h1 h2 h5) (two_ok h3 h4 hbm1 hbm2 (by omega) (by omega))).mono fun e w' h => ⟨_, minL_length 30 (fun r hr => by simp at hr; rcases hr with rfl | rfl <;> (dsimp only; omega)), sameB_iff.2 (fun i => by rw [minL_two, ← hlo, ← hm1, ← hm2, vat_minL, vat_minL, vat_minL, split_min l hk0 hkl]), h⟩)
      have HX3 : Hid (∀ V A c n B d m C, x1.length = n → x2.length = m → Sl V A c (nums x1) → Sl V B d (nums x2) → Sl V C 2 [.slice A n c, .slice B m d] → Calls Try.prog 57 #[.slice C 2 2] V fun e w' => ∃ m3, m3.length ≤ 30 ∧ sameB hi2 m3 = true ∧ ToldV V m3 e w') := Lib.hid (fun V A c n B d m C h1 h2 h3 h4 h5 => (tmax (l := [⟨A, c, x1⟩, ⟨B, d, x2⟩]) (n := 2) rfl (by omega) (two_rows h1 h2 h5) (two_ok h3 h4 hbx1 hbx2 (by omega) (by omega))).mono fun e w' h => ⟨_, maxL_length 30 (fun r hr => by simp at hr; rcases hr with rfl | rfl <;> (dsimp only; omega)), sameB_iff.2 (fun i => by rw [maxL_two, ← hhi, ← hx1, ← hx2, vat_maxL, vat_maxL, vat_maxL, split_max l k]), h⟩)
      clear hle hcut htk hA1 hA1' hd hc1 hdl htl hlo hhi hlt9 hht hturn hs3 HOK hbd hm1 hm2 hx1 hx2 htm0 hdm0 hm16 hm26 hx16 hx26 hbm1 hbm2 hbx1 hbx2 hAn
      go_wp2_with (first
        | (go_at_call 49; refine (HLE.out _ _ _ _ _ _ _ L5.out L6.out S59.out S69.out).mono ?_; rintro e w10 ⟨rfl, m10⟩; have M10 := Lib.hid (M9.out.trans m10); have S50 := Lib.hid (S59.out.mods m10 (fun _ _ h => h)); have S60 := Lib.hid (S69.out.mods m10 (fun _ _ h => h)); clear m10)
        | (go_at_call 50; have hx := M8.out; clear hx; refine (HSM.out _ hi2 ht9 _ _ _ _ _ _ hhi6 hht6 hs2 L6.out L8.out S68.out S8.out).mono ?_; rintro e w9 ⟨rfl, m9⟩; have M9 := Lib.hid (M8.out.trans m9); have S59 := Lib.hid (S58.out.mods m9 (fun _ _ h => h)); have S69 := Lib.hid (S68.out.mods m9 (fun _ _ h => h)); clear m9)
        | (go_at_call 57; have hx := M7b.out; clear hx; refine (HHT.out _ _ _ M7b.out ST7b.out).mono ?_; rintro e w8 ⟨A8, c8, n8, rfl, l8, s8, m8⟩; have M8 := Lib.hid (M7b.out.trans m8); have S8 := Lib.hid s8; have L8 := Lib.hid l8; have S58 := Lib.hid (S57b.out.mods m8 (fun _ _ h => h)); have S68 := Lib.hid (S67b.out.mods m8 (fun _ _ h => h)); clear m8 l8 s8)
        | (go_at_call 50; refine (HSM.out _ lo lt _ _ _ _ _ _ hlo6 hlt6 hs1 L5.out L7.out S57.out S7.out).mono ?_; rintro e w7b ⟨rfl, m7⟩; have M7b := Lib.hid (M7.out.trans m7); have S57b := Lib.hid (S57.out.mods m7 (fun _ _ h => h)); have S67b := Lib.hid (S67.out.mods m7 (fun _ _ h => h)); have ST7b := Lib.hid (ST7.out.mods m7 (fun _ _ h => h)); clear m7)
        | (go_at_call 55; have hx := M6.out; clear hx; refine (HLT.out _ _ _ M6.out ST6.out).mono ?_; rintro e w7 ⟨A7, c7, n7, rfl, l7, s7, m7⟩; have M7 := Lib.hid (M6.out.trans m7); have S7 := Lib.hid s7; have L7 := Lib.hid l7; have S57 := Lib.hid (S56.out.mods m7 (fun _ _ h => h)); have S67 := Lib.hid (S6.out.mods m7 (fun _ _ h => h)); have ST7 := Lib.hid (ST6.out.mods m7 (fun _ _ h => h)); clear m7 l7 s7)
        | (go_at_call 57; refine (HHI.out _ M5.out).mono ?_; rintro e w6 ⟨A6, c6, n6, rfl, l6, s6, m6⟩; have M6 := Lib.hid (M5.out.trans m6); have S6 := Lib.hid s6; have L6 := Lib.hid l6; have S56 := Lib.hid (S5.out.mods m6 (fun _ _ h => h)); have ST6 := Lib.hid (ST5.out.mods m6 (fun _ _ h => h)); clear m6 l6 s6)
        | (go_at_call 55; refine (HLO.out _ M4.out).mono ?_; rintro e w5 ⟨A5, c5, n5, rfl, l5, s5, m5⟩; have M5 := Lib.hid (M4.out.trans m5); have S5 := Lib.hid s5; have L5 := Lib.hid l5; have ST5 := Lib.hid (ST4.out.mods m5 (fun _ _ h => h)); clear m5 l5 s5)
        | (at_builtin; have hx := M3.out; clear hx; refine wpList_append_sl _ rfl _ _ 92 rfl w.heap.size 83 i0 (.slice none 0 0) 24 Try.underlying92 hi hz0 hz1 hz2 rfl _ d ((l.drop k).map RowN.val) rfl O3.out A k c ((l.take k).map RowN.val) rfl (by rw [List.length_map, HTL.out]) (HTK.out.mods M3.out (fun _ _ h => h)) (rows_one _) (by omega) (by unfold maxLen; omega) M3.out.size ?_; intro v' w4 hown hgrow hmv; rw [← List.map_append] at hown; obtain ⟨A4, c4, rfl, e4, s4, b4⟩ := own_slice hown; have ST4 := Lib.hid s4; have M4 := Lib.hid (show Mods Nil w w4 from M3.out.nil_trans ((Mods.refl (fun q => (Value.slice A3 d c3).ownBlock = some q) _).grown hgrow (fun q hq _ => hq)) (fun i h => (O3.out.lt i h).1)); clear hown hgrow hmv e4 s4 b4)
        | (at_builtin; refine wpList_append_sl _ rfl _ _ 92 rfl w.heap.size 83 i0 (.slice none 0 0) 24 Try.underlying92 hi hz0 hz1 hz2 rfl (.slice none 0 0) 0 [] rfl (World.ownsRow_nil _ _ _ _) A1 d c1 ((l.drop k).map RowN.val) rfl (by rw [List.length_map, HDL.out]) (HCUT.out.mods HMO.out (fun _ _ h => h)) (rows_one _) (by omega) (by unfold maxLen; omega) HMO.out.size ?_; intro v' w3 hown hgrow hmv; rw [Nat.zero_add, List.nil_append] at hown; obtain ⟨A3, c3, rfl, e3, s3, b3⟩ := own_slice hown; have O3 := Lib.hid hown; have M3 := Lib.hid (show Mods Nil w w3 from HMO.out.trans ((Mods.refl Nil _).grown hgrow (fun q hq _ => by simp [Value.ownBlock] at hq))); clear hown hgrow hmv e3 s3 b3))
      · go_ret
        exact ⟨rfl, M10.out⟩
      · have hk0 : 0 < k := by
          have hkz : ((k : Int) == 0) = false := by assumption
          rcases Nat.eq_zero_or_pos k with h | h
          · rw [h] at hkz; simp at hkz
          · exact h
        clear HLO HHI HLT HHT HLE HCUT HTK HDL HTL
        go_region_held (fun V => Mods Nil w10 V) (first | exact (Mods.refl Nil w10).drew | assumption | exact Mods.alloc (by assumption) _) (first
          | (go_at_call 50; have hx := T3.out; clear hx; refine (HSM.out _ hi2 x3 _ _ _ _ _ _ hhi6 lx3 sx3 L6.out T3.out (S60.out.mods M17 (fun _ _ h => h)) SX3.out).mono ?_; rintro e w18 ⟨rfl, m18⟩; have M18 := M17.trans m18; clear m18)
          | (go_at_call 57; have hx := X2.out; clear hx; refine (HX3.out _ _ _ _ _ _ _ _ X1.out X2.out (SXa.out.alloc _) (SXb.out.alloc _) (build_at (by simp) rfl rfl (by decide))).mono ?_; rintro e w17 ⟨x3, lx3, sx3, A17, c17, n17, rfl, l17, s17, m17⟩; have M17 := (M16.alloc _).trans m17; have T3 := Lib.hid l17; have SX3 := Lib.hid s17; clear m17 l17 s17)
          | (go_at_call 57; have hx := X1.out; clear hx; refine (HX2.out _ (M10.out.trans M15)).mono ?_; rintro e w16 ⟨A16, c16, n16, rfl, l16, s16, m16⟩; have M16 := M15.trans m16; have X2 := Lib.hid l16; have SXb := Lib.hid s16; have SXa := Lib.hid (SX1.out.mods m16 (fun _ _ h => h)); clear m16 l16 s16)
          | (go_at_call 57; refine (HX1.out _ (M10.out.trans M14)).mono ?_; rintro e w15 ⟨A15, c15, n15, rfl, l15, s15, m15⟩; have M15 := M14.trans m15; have X1 := Lib.hid l15; have SX1 := Lib.hid s15; clear m15 l15 s15)
          | (go_at_call 50; refine (HSM.out _ lo m3 _ _ _ _ _ _ hlo6 lm3 sm3 L5.out T13.out (S50.out.mods M13 (fun _ _ h => h)) SM3.out).mono ?_; rintro e w14 ⟨rfl, m14⟩; have M14 := M13.trans m14; clear m14)
          | (go_at_call 55; have hx := Y2.out; clear hx; refine (HM3.out _ _ _ _ _ _ _ _ Y1.out Y2.out (SYa.out.alloc _) (SYb.out.alloc _) (build_at (by simp) rfl rfl (by decide)) hk0).mono ?_; rintro e w13 ⟨m3, lm3, sm3, A13, c13, n13, rfl, l13, s13, m13⟩; have M13 := (M12.alloc _).trans m13; have T13 := Lib.hid l13; have SM3 := Lib.hid s13; clear m13 l13 s13)
          | (go_at_call 55; have hx := Y1.out; clear hx; refine (HM2.out _ (M10.out.trans M11)).mono ?_; rintro e w12 ⟨A12, c12, n12, rfl, l12, s12, m12⟩; have M12 := M11.trans m12; have Y2 := Lib.hid l12; have SYb := Lib.hid s12; have SYa := Lib.hid (SY1.out.mods m12 (fun _ _ h => h)); clear m12 l12 s12)
          | (go_at_call 55; refine (HM1.out _ M10.out.drew).mono ?_; rintro e w11 ⟨A11, c11, n11, rfl, l11, s11, m11⟩; have M11 := (Mods.refl Nil w10).drew.trans m11; have Y1 := Lib.hid l11; have SY1 := Lib.hid s11; clear m11 l11 s11))
        all_goals
          go_wp2_with fail
          go_ret
          exact ⟨rfl, M10.out.trans M18⟩
end Go.Proofs.Ytdllgmhipenidaa
