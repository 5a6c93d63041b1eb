/- SegmentAgain's walk. -/
import Derived.Test.YtgebcpfgihcoiaaHelp7b
namespace Go.Proofs.Ytgebcpfgihcoiaa
set_option maxRecDepth 1000000
open Go.RowKit
set_option linter.unusedVariables false

set_option maxHeartbeats 12800000 in
theorem segmentAgain_walk (w : World) {A : Option Addr} {c n : Nat} {l : List Row} (hn : l.length = n) (hs : Sl w A c (l.map Row.val)) (hr : ∀ r ∈ l, r.ok w) {A1 : Option Addr} {c1 m : Nat} {ys : List UInt8} (hm : ys.length = m) (hs1 : Sl w A1 c1 (bts ys)) :
    Calls Try.prog 6 #[.slice A n c, .slice A1 m c1] w fun e w' => e = .returned (.bool true) ∧ Mods Nil w w' := by
  by_cases h12 : 12 < n
  · have h12I : decide ((12 : Int) < (n : Int)) = true := by simp; omega
    clear hn hs hr hm hs1
    go_enter Try.func6, Try.ntmps6
    go_wp2_with (go_at_call 9; refine (awake7_any _).mono ?_; rintro e w1 ⟨rfl, m1⟩; have M1 := Lib.hid m1; clear m1)
    go_ret
    exact ⟨rfl, M1.out⟩
  have h12I : decide ((12 : Int) < (n : Int)) = false := by simp; omega
  by_cases hmn : m < n
  · have hmnI : (m : Int) < (n : Int) := by omega
    clear hn hs hr hm hs1
    go_enter Try.func6, Try.ntmps6
    go_wp2_with (go_at_call 9; refine (awake7_any _).mono ?_; rintro e w1 ⟨rfl, m1⟩; have M1 := Lib.hid m1; clear m1)
    go_ret
    exact ⟨rfl, M1.out⟩
  have hmnI : (n : Int) ≤ (m : Int) := by omega
  obtain ⟨ls, hls⟩ : ∃ ls, l.map (·.xs) = ls := ⟨_, rfl⟩
  have HLN : Hid (ls.length = n) := Lib.hid (by rw [← hls]; simp [hn])
  have HN12 := Lib.hid (show n ≤ 12 by omega)
  have HNM := Lib.hid (show n ≤ m by omega)
  have HROW := Lib.hid (fun j (hj : j < n) => in7_at hn hls hs hr hj)
  have HM := Lib.hid hm
  have HP := Lib.hid hs1
  have HN := Lib.hid (new7 100 (by omega) (by omega))
  have HO := Lib.hid (open7 100 (by omega) (by omega))
  clear hn hs hr hm hs1 hls h12 hmn
  go_enter Try.func6, Try.ntmps6
  go_wp2_with (first
    | (go_at_call 9; refine (awake7_any _).mono ?_; rintro e w1 ⟨rfl, m1⟩; have M1 := Lib.hid m1; clear m1)
    | (go_at_call 10; refine (HN.out _ w.heap.size M1.out.size).mono ?_; rintro e w2 ⟨db, rfl, d2, m2⟩; have D2 := Lib.hid d2; have M2 := Lib.hid (M1.out.trans m2); clear d2 m2)
    | (go_at_call 12; refine (HO.out _ w.heap.size _ D2.out M2.out.size).mono ?_; rintro e w3 ⟨sb, rfl, a3, m3⟩; have A3 := Lib.hid a3; have M3 := Lib.hid (M2.out.trans m3); clear a3 m3))
  go_loopw [8, 9, 10] (fun s er x wr => ∃ (i sb E : Nat) (L : List (List UInt8)) (old : Recs) (news : List (List UInt8)), i ≤ n ∧ s = .pointer (some ⟨sb, 0, none⟩) ∧ er = .int .i64 0 ∧ x = .int .i64 (i : Int) ∧ At7 wr w.heap.size sb db [] L [] old news E 100 ∧ E ≤ i + 1 ∧ old.map (·.1) ++ news = ls.take i ∧ usedP old + usedP (with_ E news) ≤ 5 * i ∧ Mods Nil w wr) (fun _ _ x _ => n - (intOf x).toNat)
  case atStart => exact ⟨0, sb, 1, _, [], [], Nat.zero_le _, rfl, rfl, rfl, A3.out, Nat.le_refl _, rfl, Nat.le_refl _, M3.out⟩
  case round =>
    clear A3
    obtain ⟨i, sb, E, L, old, news, hi, rfl, rfl, rfl, ha, hE, hrec, hus, hmo⟩ := hrel
    have HA := Lib.hid ha
    have HE := Lib.hid hE
    have HREC := Lib.hid hrec
    have HU := Lib.hid hus
    have HMO := Lib.hid hmo
    have HLEN : Hid (old.length + news.length = i) := by
      have e := congrArg List.length hrec
      have := HLN.out
      simp at e
      exact Lib.hid (by omega)
    clear ha hE hrec hus hmo
    by_cases hlt : i < n
    · have hltI : (i : Int) < (n : Int) := by omega
      have w6 : IntKind.i64.wrap ((i : Int) + 1) = (i : Int) + 1 := by rw [IntKind.wrap_i64]; have := HN12.out; omega
      obtain ⟨b, off, r, rfl, hrow, hrok, hblt, hcell⟩ := HROW.out i hlt
      obtain ⟨q, hq⟩ : ∃ q, r.xs.length = q := ⟨_, rfl⟩
      rw [hq] at hcell
      have c0 := (World.cell?_of_block (HMO.out.block b hblt (fun h => h))).trans hcell
      by_cases h200 : 200 < q
      · have h200I : (200 : Int) < (q : Int) := by omega
        clear hrok hrow hcell hq
        go_wp2_with fail
        go_ret
        exact ⟨rfl, HMO.out⟩
      have h200I : (q : Int) ≤ 200 := by omega
      have hneed := needP_200 (show q ≤ 200 by omega)
      have hiy : i < ys.length := by rw [HM.out]; have := HNM.out; omega
      obtain ⟨bA, oA, rfl, hbA, hc⟩ := HP.out.at_ (by rw [bts_length]; omega)
      have hcy := hc i _ (bts_get ys i hiy)
      obtain ⟨y, hy⟩ : ∃ y, (ys[i]'hiy).toNat = y := ⟨_, rfl⟩
      rw [hy] at hcy
      have CF : Hid (∀ V, Mods Nil w V → V.cell? ⟨bA, oA + i, none⟩ = some (.int .u8 (y : Int))) := Lib.hid (fun V hV => (World.cell?_of_block (hV.block bA hbA (fun h => h))).trans hcy)
      have hyI : (i : Int) < (m : Int) := by have := HNM.out; omega
      have hand := u8_and1 y
      have HAP := Lib.hid (a7append (k := (i : Int)) HA.out (by have := HU.out; have := HN12.out; omega) ((Sb.arg hrok (Nat.le_refl _)).nil HMO.out) hq (by omega) (by have := HU.out; have := HN12.out; omega) (by have := HLEN.out; omega))
      have HTAKE := Lib.hid (take_snoc7 hrow)
      have HU2 : Hid (usedP old + usedP (with_ E (news ++ [r.xs])) ≤ 5 * (i + 1)) := by
        rw [with_snoc, hq]
        have := HU.out
        exact Lib.hid (by omega)
      have HREC2 : Hid (old.map (·.1) ++ (news ++ [r.xs]) = ls.take (i + 1)) := by
        rw [HTAKE.out, ← HREC.out, List.append_assoc]
        exact Lib.hid rfl
      clear hrok hrow hcell hq hc hcy hy hiy hbA hneed
      by_cases h1 : y % 2 = 1
      · rw [h1] at hand
        obtain ⟨fr, hfr⟩ : ∃ fr : Nat, 100 - usedP (old ++ with_ E (news ++ [r.xs])) = fr := ⟨_, rfl⟩
        have HFR := Lib.hid hfr
        have HSURE : Hid ((((old ++ with_ E (news ++ [r.xs])).length : Nat) : Int) = (i : Int) + 1) := by
          have := HLEN.out
          exact Lib.hid (by simp [with_length]; omega)
        clear hfr
        go_wp2_with (first
          | (go_at_call 14; refine HAP.out.mono ?_; rintro e w5 ⟨rfl, a5, m5⟩; have A5 := Lib.hid a5; have M5 := Lib.hid (SM.nilTrans HMO.out (Nat.le_refl _) m5); have c5 := CF.out _ M5.out; clear a5 m5)
          | (go_at_call 17; refine (a7sync A5.out (by have := HE.out; have := HN12.out; omega)).mono ?_; rintro e w7 ⟨rfl, a7, m7⟩; have A7 := Lib.hid a7; have M7 := Lib.hid (SM.nilTrans M5.out (Nat.le_refl _) m7); clear a7 m7)
          | (go_at_call 12; obtain ⟨E', op9, st9, le9, eq9, r9⟩ := Run.again (pre := []) (post := []) A8.out.run (by have := HE.out; have := HN12.out; omega) (by omega); have D8 := A8.out.disk; rw [eq9] at D8; refine (a7open (a := 0) (k := 100) D8 M8.out.size op9 r9 (by omega) (by simp) (by have := HE.out; have := HN12.out; omega) rfl rfl).mono ?_; rintro e w9 ⟨sb2, rfl, a9, m9⟩; have A9 := Lib.hid a9; have M9 := Lib.hid (M8.out.trans m9); have LE9 := Lib.hid le9; clear a9 m9 op9 st9 le9 eq9 r9 D8)
          | (go_at_call_of 33 (Value.pointer (some ⟨sb2, 0, none⟩)); refine (a7free A9.out (k := (fr : Int)) (by have := HFR.out; show ((100 - (usedP _ + 0) : Nat) : Int) = _; omega)).mono ?_; rintro e w10 ⟨rfl, m10⟩; have A10 := Lib.hid (A9.out.nil m10); have M10 := Lib.hid (M9.out.trans m10); clear m10)
          | (go_at_call 33; refine (a7free A7.out (k := (fr : Int)) (by have := HFR.out; show ((100 - (usedP _ + 0) : Nat) : Int) = _; omega)).mono ?_; rintro e w8 ⟨rfl, m8⟩; have A8 := Lib.hid (A7.out.nil m8); have M8 := Lib.hid (M7.out.trans m8); clear m8)
          | (go_at_call 31; refine (a7sure A10.out (k := (i : Int) + 1) HSURE.out).mono ?_; rintro e w11 ⟨rfl, m11⟩; have A11 := Lib.hid (A10.out.nil m11); have M11 := Lib.hid (M10.out.trans m11); clear m11))
        refine ⟨⟨i + 1, sb2, E', _, _, [], by omega, rfl, rfl, by go_num, A11.out, by have := HE.out; have := LE9.out; omega, ?_, ?_, M11.out⟩, by simp [intOf]; omega⟩
        · rw [List.map_append, with_fst, List.append_nil]
          exact HREC2.out
        · rw [usedP_append]
          exact HU2.out
      · have h0 : y % 2 = 0 := by omega
        rw [h0] at hand
        go_wp2_with (first
          | (go_at_call 14; refine HAP.out.mono ?_; rintro e w5 ⟨rfl, a5, m5⟩; have A5 := Lib.hid a5; have M5 := Lib.hid (SM.nilTrans HMO.out (Nat.le_refl _) m5); have c5 := CF.out _ M5.out; clear a5 m5))
        exact ⟨⟨i + 1, sb, E, _, _, _, by omega, rfl, rfl, by go_num, A5.out, by have := HE.out; omega, HREC2.out, HU2.out, M5.out⟩, by simp [intOf]; omega⟩
    · obtain rfl : i = n := by omega
      go_wp2_with fail
      go_loopw [14] (fun x wr => ∃ (j : Nat), j ≤ i ∧ x = .int .i64 (j : Int) ∧ At7 wr w.heap.size sb db [] L [] old news E 100 ∧ Mods Nil w wr) (fun x _ => i - (intOf x).toNat)
      case atStart => exact ⟨0, Nat.zero_le _, rfl, HA.out, HMO.out⟩
      case round =>
        clear HA HMO
        obtain ⟨j, hj, rfl, ha, hmo⟩ := hrel
        have HA := Lib.hid ha
        have HMO := Lib.hid hmo
        clear ha hmo
        by_cases hltj : j < i
        · have hltJ : (j : Int) < (i : Int) := by omega
          have w8 : IntKind.i64.wrap ((j : Int) + 1) = (j : Int) + 1 := by rw [IntKind.wrap_i64]; have := HN12.out; omega
          obtain ⟨b, off, r, rfl, hrow, hrok, hblt, hcell⟩ := HROW.out j hltj
          obtain ⟨q, hq⟩ : ∃ q, r.xs.length = q := ⟨_, rfl⟩
          rw [hq] at hcell
          have HRD := Lib.hid (a7read HA.out (k := j) (b := r.xs) (by have := HLEN.out; omega) (by rw [HREC.out, List.getD_eq_getElem?_getD, List.getElem?_take, if_pos hltj, hrow]; rfl) rfl)
          have HROK := Lib.hid hrok
          have HQ := Lib.hid hq
          have HCELL := Lib.hid hcell
          have HBLT := Lib.hid hblt
          clear hrow hrok hq hcell hblt
          go_wp2_with (go_at_call 32; refine HRD.out.mono ?_; rintro e w10 ⟨A10, c10, m10, rfl, l10, s10, k10⟩; obtain rfl : q = m10 := HQ.out.symm.trans l10; have S10 := Lib.hid s10; have K10 := Lib.hid k10; have M10 := Lib.hid (HMO.out.trans k10); clear s10 k10 l10)
          have v1 := fun nq => conv7 HQ.out (S10.out.drewN nq)
          have v2 := fun nq => conv7 HQ.out ((HROK.out.mods M10.out).drewN nq)
          have c1 := (World.cell?_of_block (M10.out.block b HBLT.out (fun h => h))).trans HCELL.out
          go_quiet (fail)
          go_wp2_with fail
          exact ⟨⟨j + 1, by omega, by go_num, (HA.out.nil K10.out).nil ((Mods.refl Nil w10).drewN _), M10.out.drewN _⟩, by simp [intOf]; omega⟩
        · obtain rfl : j = i := by omega
          go_wp2_with (go_at_call 30; refine (a7len HA.out (k := (j : Int)) (by have := HLEN.out; omega)).mono ?_; rintro e w9 ⟨rfl, m9⟩; have M9 := Lib.hid (HMO.out.trans m9); clear m9)
          go_ret
          exact ⟨rfl, M9.out⟩
end Go.Proofs.Ytgebcpfgihcoiaa
