/- SegmentGives' walk. -/
import Derived.Test.YtgebcpfgihcoiaaHelp7
namespace Go.Proofs.Ytgebcpfgihcoiaa
set_option maxRecDepth 1000000
open Go.RowKit
set_option linter.unusedVariables false

/-- Records of one byte each. -/
def rsP (j : Nat) : List (List UInt8) := (List.range j).map fun i => [UInt8.ofNat i]
theorem rsP_next (j : Nat) : rsP (j + 1) = rsP j ++ [[UInt8.ofNat j]] := by simp [rsP, List.range_succ]
theorem rsP_length (j : Nat) : (rsP j).length = j := by simp [rsP]
theorem rsP_get {j i : Nat} (h : i < j) : (rsP j).getD i [] = [UInt8.ofNat i] := by simp [rsP, List.getD_eq_getElem?_getD, h]
/-- So many appended; so many of them synced. -/
structure G7 (wr : World) (base sb db : Nat) (n k i : Nat) : Prop where
  ex : ∃ L old news, At7 wr base sb db [] L [] old news 1 n ∧ old.map (·.1) ++ news = rsP i ∧ usedP old + usedP (with_ 1 news) = i ∧ (i ≤ k → old = []) ∧ (k < i → old.length = k)
set_option maxHeartbeats 12800000 in
theorem segmentGives_walk (w : World) {z0 : Int} (hz0 : (Lit.int .u8 z0).wf = true) {z1 : Int} (hz1 : (Lit.int .u8 z1).wf = true) {low : Int} (hlow : (Lit.int .i64 low).wf = true) :
    Calls Try.prog 7 #[.int .u8 z0, .int .u8 z1, .int .i64 low] w fun e w' => e = .returned (.bool true) ∧ Mods Nil w w' := by
  obtain ⟨p, rfl, hp⟩ := u8_nat7 hz0
  obtain ⟨q, rfl, hq⟩ := u8_nat7 hz1
  clear hz0 hz1
  obtain ⟨n, hn⟩ : ∃ n, p % 20 = n := ⟨_, rfl⟩
  obtain ⟨k, hk⟩ : ∃ k, q % (n + 1) = k := ⟨_, rfl⟩
  have hn20 : n < 20 := by omega
  have hkn : k ≤ n := by have := Nat.mod_lt q (show 0 < n + 1 by omega); omega
  have t1 : Int.tmod (p : Int) 20 = (n : Int) := by rw [Int.tmod_eq_emod_of_nonneg (by omega)]; omega
  have t2 : Int.tmod (q : Int) ((n : Int) + 1) = (k : Int) := by rw [Int.tmod_eq_emod_of_nonneg (by omega), ← hk]; simp
  have v1 : IntKind.u8.wrap (n : Int) = (n : Int) := by rw [IntKind.wrap_u8']; omega
  have v2 : IntKind.i64.wrap (n : Int) = (n : Int) := by rw [IntKind.wrap_i64]; omega
  have v3 : IntKind.i64.wrap (k : Int) = (k : Int) := by rw [IntKind.wrap_i64]; omega
  have v4 : IntKind.i64.wrap (q : Int) = (q : Int) := by rw [IntKind.wrap_i64]; omega
  have v5 : IntKind.i64.wrap ((n : Int) + 1) = (n : Int) + 1 := by rw [IntKind.wrap_i64]; omega
  have hn1 : ¬ ((n : Int) + 1 = 0) := by omega
  have hn1b : ((n : Int) + 1 == 0) = false := by simp; omega
  have HN := Lib.hid (new7 30 (by omega) (by omega))
  have HO := Lib.hid (open7 30 (by omega) (by omega))
  have HP := Lib.hid hp
  have HQ := Lib.hid hq
  have HKN := Lib.hid hkn
  have HN20 := Lib.hid hn20
  clear hn hk hp hq hlow hkn
  go_enter Try.func7, Try.ntmps7
  go_wp2_with (first
    | (go_at_call 9; refine (awake7_any _).mono ?_; rintro e w1 ⟨rfl, m1⟩; have M1 := Lib.hid m1; clear m1)
    | (go_at_call 10; refine (HN.out _ w.heap.size M1.out.size).mono ?_; rintro e w2 ⟨db, rfl, d2, m2⟩; have D2 := Lib.hid d2; have M2 := Lib.hid (M1.out.trans m2); clear d2 m2)
    | (go_at_call 12; refine (HO.out _ w.heap.size _ D2.out M2.out.size).mono ?_; rintro e w3 ⟨sb, rfl, a3, m3⟩; have A3 := Lib.hid a3; have M3 := Lib.hid (M2.out.trans m3); clear a3 m3))
  go_loopw [14] (fun x wr => ∃ (i : Nat), i ≤ n ∧ x = .int .i64 (i : Int) ∧ G7 wr w.heap.size sb db 30 k i ∧ Mods Nil w wr) (fun x _ => n - (intOf x).toNat)
  case atStart => exact ⟨0, Nat.zero_le _, rfl, ⟨⟨_, [], [], A3.out, rfl, rfl, fun _ => rfl, fun h => absurd h (by omega)⟩⟩, M3.out⟩
  case round =>
    obtain ⟨i, hi, rfl, hg, hmo⟩ := hrel
    obtain ⟨L, old, news, ha, hrec, hus, ho1, ho2⟩ := hg.ex
    have HA := Lib.hid ha
    have HREC := Lib.hid hrec
    have HUS := Lib.hid hus
    have HO1 := Lib.hid ho1
    have HO2 := Lib.hid ho2
    have HM := Lib.hid hmo
    have HLEN : Hid (old.length + news.length = i) := by
      have := congrArg List.length hrec
      simp [rsP_length] at this
      exact Lib.hid this
    clear hg ha hrec hus ho1 ho2 hmo
    by_cases hlt : i < n
    · have hltI : (i : Int) < (n : Int) := by omega
      have v6 : IntKind.i64.wrap ((i : Int) + 1) = (i : Int) + 1 := by rw [IntKind.wrap_i64]; omega
      have v7 : IntKind.u8.wrap (i : Int) = (i : Int) := by rw [IntKind.wrap_u8']; omega
      have hcs : Hid (#[Value.int .u8 (i : Int)] = (bts [UInt8.ofNat i]).toArray) := by
        show _ = _
        simp [bts]
        omega
      by_cases hik : i = k
      · subst hik
        have hold : Hid (old = []) := Lib.hid (HO1.out (Nat.le_refl _))
        go_wp2_with (first
          | (go_at_call 17; refine (a7sync HA.out (by omega)).mono ?_; rintro e w4 ⟨rfl, a4, m4⟩; have A4 := Lib.hid a4; have M4 := Lib.hid (SM.nilTrans HM.out (Nat.le_refl _) m4); clear a4 m4)
          | (go_at_call 14; refine (a7append (q := 1) (b := [UInt8.ofNat i]) (k := (i : Int)) (A4.out.nil ((Mods.refl Nil w4).alloc _)) (Nat.zero_le _) (sb_new (n := 1) w.heap.size w4 hcs.out rfl (by unfold maxLen; omega)) rfl (by omega) ?_ ?_).mono ?_; (focus (have := HUS.out; rw [usedP_append]; show usedP old + usedP (with_ 1 news) + 0 + 1 ≤ 30; omega)); (focus (have := HLEN.out; simp [with_length]; omega)); rintro e w5 ⟨rfl, a5, m5⟩; have A5 := Lib.hid a5; have M5 := Lib.hid (SM.nilTrans (M4.out.alloc _) (Nat.le_refl _) m5); clear a5 m5))
        refine ⟨⟨i + 1, by omega, by go_num, ⟨⟨_, _, _, A5.out, ?_, ?_, fun h => absurd h (by omega), fun _ => ?_⟩⟩, M5.out⟩, by simp [intOf]; omega⟩
        · rw [hold.out]
          have := HREC.out
          rw [hold.out] at this
          simp only [List.map_nil, List.nil_append] at this
          simp only [List.nil_append, with_fst, List.nil_append]
          rw [rsP_next, this]
        · have := HUS.out
          rw [usedP_append]
          show usedP old + usedP (with_ 1 news) + 1 = i + 1
          omega
        · have := HLEN.out
          rw [List.length_append, with_length]
          exact this
      · have hikI : ((i : Int) == (k : Int)) = false := by simp; omega
        go_wp2_with (first
          | (go_at_call 14; refine (a7append (q := 1) (b := [UInt8.ofNat i]) (k := (i : Int)) (HA.out.nil ((Mods.refl Nil wr).alloc _)) (by have := HUS.out; omega) (sb_new (n := 1) w.heap.size wr hcs.out rfl (by unfold maxLen; omega)) rfl (by omega) ?_ ?_).mono ?_; (focus (have := HUS.out; show usedP old + usedP (with_ 1 news) + 1 ≤ 30; omega)); (focus (have := HLEN.out; omega)); rintro e w5 ⟨rfl, a5, m5⟩; have A5 := Lib.hid a5; have M5 := Lib.hid (SM.nilTrans (HM.out.alloc _) (Nat.le_refl _) m5); clear a5 m5))
        refine ⟨⟨i + 1, by omega, by go_num, ⟨⟨_, _, _, A5.out, ?_, ?_, fun h => HO1.out (by omega), fun h => HO2.out (by omega)⟩⟩, M5.out⟩, by simp [intOf]; omega⟩
        · rw [rsP_next, ← HREC.out, List.append_assoc]
        · have := HUS.out
          rw [with_snoc]
          show usedP old + (usedP (with_ 1 news) + 1) = i + 1
          omega
    · obtain rfl : i = n := by omega
      by_cases hkn : k = i
      · subst hkn
        rcases Int.lt_or_le (k : Int) low with hl1 | hl1
        · have hk0 : (0 : Int) ≤ (k : Int) := by omega
          have HSURE : Hid ((old ++ with_ 1 news).length = k) := by have := HLEN.out; rw [← with_length 1 news, ← List.length_append] at this; exact Lib.hid this
          have HRECS : Hid ((old ++ with_ 1 news).map (·.1) ++ [] = rsP k) := by
            have := HREC.out; rw [List.map_append, with_fst, List.append_nil]; exact Lib.hid this
          go_wp2_with (first
            | (go_at_call 17; refine (a7sync HA.out (by omega)).mono ?_; rintro e w4 ⟨rfl, a4, m4⟩; have A4 := Lib.hid a4; have M4 := Lib.hid (SM.nilTrans HM.out (Nat.le_refl _) m4); clear a4 m4)
            | (go_at_call 19; refine (a7trim2 S5.out D5.out 0 (t := k) (by omega) (by rfl)).mono ?_; rintro e w6 ⟨rfl, s6, d6, m6⟩; have S6 := Lib.hid s6; have M6 := Lib.hid (SM.nilTrans M5.out (Nat.le_refl _) m6); clear s6 d6 m6)
            | (go_at_call 19; refine (a7trim A4.out low (t := k) ?_ ?_).mono ?_; (focus (rw [HSURE.out]; omega)); (focus (rw [HSURE.out]; omega)); rintro e w5 ⟨rfl, ⟨mb, s5⟩, d5, m5⟩; have S5 := Lib.hid s5; have D5 := Lib.hid d5; have M5 := Lib.hid (SM.nilTrans M4.out (Nat.le_refl _) m5); clear s5 d5 m5))
          go_loopw [18] (fun x wr => ∃ (j : Nat), j ≤ k ∧ x = .int .i64 (j : Int) ∧ SegIn wr w.heap.size sb db mb ((runS 0 (old ++ with_ 1 news) [] 1 30).at_ k) ∧ Mods Nil w wr) (fun x _ => k - (intOf x).toNat)
          case atStart => exact ⟨0, Nat.zero_le _, rfl, S6.out, M6.out⟩
          case round =>
            obtain ⟨j, hj, rfl, hs, hmo⟩ := hrel
            have SJ := Lib.hid hs
            have MJ := Lib.hid hmo
            clear hs hmo
            by_cases hlt2 : j < k
            · have hltJ : (j : Int) < (k : Int) := by omega
              have v8 : IntKind.i64.wrap ((j : Int) + 1) = (j : Int) + 1 := by rw [IntKind.wrap_i64]; omega
              have v9 : IntKind.u8.wrap (j : Int) = (j : Int) := by rw [IntKind.wrap_u8']; omega
              by_cases hjt : j < k
              · have hjtI : (j : Int) < (k : Nat) := by omega
                go_wp2_with (first
                  | (go_at_call 32; refine (a7gone SJ.out (j := j) hjt (by rw [HRECS.out, rsP_length]; exact hlt2)).mono ?_; rintro e w7 ⟨Ar, cr, mr, rfl, m7⟩; have M7 := Lib.hid m7; clear m7))
                exact ⟨⟨j + 1, by omega, by go_num, SJ.out.nil M7.out, MJ.out.trans M7.out⟩, by simp [intOf]; omega⟩
              · have hjtI : ((k : Nat) : Int) ≤ (j : Int) := by omega
                exact absurd hlt2 hjt
            · obtain rfl : j = k := by omega
              go_wp2_with fail
              go_ret
              exact ⟨rfl, MJ.out⟩
        rcases Int.lt_or_le low 0 with hl2 | hl2
        · have hz : (0 : Int) ≤ 0 := by omega
          have HSURE : Hid ((old ++ with_ 1 news).length = k) := by have := HLEN.out; rw [← with_length 1 news, ← List.length_append] at this; exact Lib.hid this
          have HRECS : Hid ((old ++ with_ 1 news).map (·.1) ++ [] = rsP k) := by
            have := HREC.out; rw [List.map_append, with_fst, List.append_nil]; exact Lib.hid this
          go_wp2_with (first
            | (go_at_call 17; refine (a7sync HA.out (by omega)).mono ?_; rintro e w4 ⟨rfl, a4, m4⟩; have A4 := Lib.hid a4; have M4 := Lib.hid (SM.nilTrans HM.out (Nat.le_refl _) m4); clear a4 m4)
            | (go_at_call 19; refine (a7trim2 S5.out D5.out 0 (t := 0) (by omega) (by rfl)).mono ?_; rintro e w6 ⟨rfl, s6, d6, m6⟩; have S6 := Lib.hid s6; have M6 := Lib.hid (SM.nilTrans M5.out (Nat.le_refl _) m6); clear s6 d6 m6)
            | (go_at_call 19; refine (a7trim A4.out low (t := 0) ?_ ?_).mono ?_; (focus (rw [HSURE.out]; omega)); (focus (rw [HSURE.out]; omega)); rintro e w5 ⟨rfl, ⟨mb, s5⟩, d5, m5⟩; have S5 := Lib.hid s5; have D5 := Lib.hid d5; have M5 := Lib.hid (SM.nilTrans M4.out (Nat.le_refl _) m5); clear s5 d5 m5))
          go_loopw [18] (fun x wr => ∃ (j : Nat), j ≤ k ∧ x = .int .i64 (j : Int) ∧ SegIn wr w.heap.size sb db mb ((runS 0 (old ++ with_ 1 news) [] 1 30).at_ 0) ∧ Mods Nil w wr) (fun x _ => k - (intOf x).toNat)
          case atStart => exact ⟨0, Nat.zero_le _, rfl, S6.out, M6.out⟩
          case round =>
            obtain ⟨j, hj, rfl, hs, hmo⟩ := hrel
            have SJ := Lib.hid hs
            have MJ := Lib.hid hmo
            clear hs hmo
            by_cases hlt2 : j < k
            · have hltJ : (j : Int) < (k : Int) := by omega
              have v8 : IntKind.i64.wrap ((j : Int) + 1) = (j : Int) + 1 := by rw [IntKind.wrap_i64]; omega
              have v9 : IntKind.u8.wrap (j : Int) = (j : Int) := by rw [IntKind.wrap_u8']; omega
              by_cases hjt : j < 0
              · have hjtI : (j : Int) < (0 : Nat) := by omega
                exact absurd hjt (by omega)
              · have hjtI : ((0 : Nat) : Int) ≤ (j : Int) := by omega
                go_wp2_with (first
                  | (go_at_call 32; refine (a7there SJ.out (j := j) (b := [UInt8.ofNat j]) (by omega) (by rw [HRECS.out, rsP_length]; exact hlt2) (by rw [HRECS.out, rsP_get hlt2])).mono ?_; rintro e w7 ⟨Ar, cr, mr, rfl, lr, sr, m7⟩; obtain rfl : 1 = mr := lr; obtain ⟨br, or_, rfl, -, hcr⟩ := sr.at_ (by simp); have cb : w7.cell? ⟨br, or_, none⟩ = some (.int .u8 (j : Int)) := (by have := hcr 0 (.int .u8 ((UInt8.ofNat j).toNat : Int)) rfl; rw [ofNat_toNat j (by omega)] at this; exact this); have M7 := Lib.hid m7; clear m7 sr hcr))
                exact ⟨⟨j + 1, by omega, by go_num, SJ.out.nil M7.out, MJ.out.trans M7.out⟩, by simp [intOf]; omega⟩
            · obtain rfl : j = k := by omega
              go_wp2_with fail
              go_ret
              exact ⟨rfl, MJ.out⟩
        obtain ⟨t, rfl⟩ : ∃ t : Nat, low = (t : Int) := ⟨low.toNat, by omega⟩
        have HSURE : Hid ((old ++ with_ 1 news).length = k) := by have := HLEN.out; rw [← with_length 1 news, ← List.length_append] at this; exact Lib.hid this
        have HRECS : Hid ((old ++ with_ 1 news).map (·.1) ++ [] = rsP k) := by
          have := HREC.out; rw [List.map_append, with_fst, List.append_nil]; exact Lib.hid this
        go_wp2_with (first
          | (go_at_call 17; refine (a7sync HA.out (by omega)).mono ?_; rintro e w4 ⟨rfl, a4, m4⟩; have A4 := Lib.hid a4; have M4 := Lib.hid (SM.nilTrans HM.out (Nat.le_refl _) m4); clear a4 m4)
          | (go_at_call 19; refine (a7trim2 S5.out D5.out 0 (t := t) (by omega) (by rfl)).mono ?_; rintro e w6 ⟨rfl, s6, d6, m6⟩; have S6 := Lib.hid s6; have M6 := Lib.hid (SM.nilTrans M5.out (Nat.le_refl _) m6); clear s6 d6 m6)
          | (go_at_call 19; refine (a7trim A4.out (t : Int) (t := t) ?_ ?_).mono ?_; (focus (rw [HSURE.out]; omega)); (focus (rw [HSURE.out]; omega)); rintro e w5 ⟨rfl, ⟨mb, s5⟩, d5, m5⟩; have S5 := Lib.hid s5; have D5 := Lib.hid d5; have M5 := Lib.hid (SM.nilTrans M4.out (Nat.le_refl _) m5); clear s5 d5 m5))
        go_loopw [18] (fun x wr => ∃ (j : Nat), j ≤ k ∧ x = .int .i64 (j : Int) ∧ SegIn wr w.heap.size sb db mb ((runS 0 (old ++ with_ 1 news) [] 1 30).at_ t) ∧ Mods Nil w wr) (fun x _ => k - (intOf x).toNat)
        case atStart => exact ⟨0, Nat.zero_le _, rfl, S6.out, M6.out⟩
        case round =>
          obtain ⟨j, hj, rfl, hs, hmo⟩ := hrel
          have SJ := Lib.hid hs
          have MJ := Lib.hid hmo
          clear hs hmo
          by_cases hlt2 : j < k
          · have hltJ : (j : Int) < (k : Int) := by omega
            have v8 : IntKind.i64.wrap ((j : Int) + 1) = (j : Int) + 1 := by rw [IntKind.wrap_i64]; omega
            have v9 : IntKind.u8.wrap (j : Int) = (j : Int) := by rw [IntKind.wrap_u8']; omega
            by_cases hjt : j < t
            · have hjtI : (j : Int) < (t : Nat) := by omega
              go_wp2_with (first
                | (go_at_call 32; refine (a7gone SJ.out (j := j) hjt (by rw [HRECS.out, rsP_length]; exact hlt2)).mono ?_; rintro e w7 ⟨Ar, cr, mr, rfl, m7⟩; have M7 := Lib.hid m7; clear m7))
              exact ⟨⟨j + 1, by omega, by go_num, SJ.out.nil M7.out, MJ.out.trans M7.out⟩, by simp [intOf]; omega⟩
            · have hjtI : ((t : Nat) : Int) ≤ (j : Int) := by omega
              go_wp2_with (first
                | (go_at_call 32; refine (a7there SJ.out (j := j) (b := [UInt8.ofNat j]) (by omega) (by rw [HRECS.out, rsP_length]; exact hlt2) (by rw [HRECS.out, rsP_get hlt2])).mono ?_; rintro e w7 ⟨Ar, cr, mr, rfl, lr, sr, m7⟩; obtain rfl : 1 = mr := lr; obtain ⟨br, or_, rfl, -, hcr⟩ := sr.at_ (by simp); have cb : w7.cell? ⟨br, or_, none⟩ = some (.int .u8 (j : Int)) := (by have := hcr 0 (.int .u8 ((UInt8.ofNat j).toNat : Int)) rfl; rw [ofNat_toNat j (by omega)] at this; exact this); have M7 := Lib.hid m7; clear m7 sr hcr))
              exact ⟨⟨j + 1, by omega, by go_num, SJ.out.nil M7.out, MJ.out.trans M7.out⟩, by simp [intOf]; omega⟩
          · obtain rfl : j = k := by omega
            go_wp2_with fail
            go_ret
            exact ⟨rfl, MJ.out⟩
      · have hknI : ((k : Int) == (i : Int)) = false := by simp; omega
        have hkl : k < i := by have := HKN.out; omega
        rcases Int.lt_or_le (k : Int) low with hl1 | hl1
        · have hk0 : (0 : Int) ≤ (k : Int) := by omega
          have HSURE : Hid (old.length = k) := Lib.hid (HO2.out (by omega))
          have HRECS : Hid (old.map (·.1) ++ news = rsP i) := by
            exact HREC
          go_wp2_with (first
            | (go_at_call 19; refine (a7trim2 S5.out D5.out 0 (t := k) (by omega) (by rfl)).mono ?_; rintro e w6 ⟨rfl, s6, d6, m6⟩; have S6 := Lib.hid s6; have M6 := Lib.hid (SM.nilTrans M5.out (Nat.le_refl _) m6); clear s6 d6 m6)
            | (go_at_call 19; refine (a7trim HA.out low (t := k) ?_ ?_).mono ?_; (focus (rw [HSURE.out]; omega)); (focus (rw [HSURE.out]; omega)); rintro e w5 ⟨rfl, ⟨mb, s5⟩, d5, m5⟩; have S5 := Lib.hid s5; have D5 := Lib.hid d5; have M5 := Lib.hid (SM.nilTrans HM.out (Nat.le_refl _) m5); clear s5 d5 m5))
          go_loopw [18] (fun x wr => ∃ (j : Nat), j ≤ i ∧ x = .int .i64 (j : Int) ∧ SegIn wr w.heap.size sb db mb ((runS 0 old news 1 30).at_ k) ∧ Mods Nil w wr) (fun x _ => i - (intOf x).toNat)
          case atStart => exact ⟨0, Nat.zero_le _, rfl, S6.out, M6.out⟩
          case round =>
            obtain ⟨j, hj, rfl, hs, hmo⟩ := hrel
            have SJ := Lib.hid hs
            have MJ := Lib.hid hmo
            clear hs hmo
            by_cases hlt2 : j < i
            · have hltJ : (j : Int) < (i : Int) := by omega
              have v8 : IntKind.i64.wrap ((j : Int) + 1) = (j : Int) + 1 := by rw [IntKind.wrap_i64]; omega
              have v9 : IntKind.u8.wrap (j : Int) = (j : Int) := by rw [IntKind.wrap_u8']; omega
              by_cases hjt : j < k
              · have hjtI : (j : Int) < (k : Nat) := by omega
                go_wp2_with (first
                  | (go_at_call 32; refine (a7gone SJ.out (j := j) hjt (by rw [HRECS.out, rsP_length]; exact hlt2)).mono ?_; rintro e w7 ⟨Ar, cr, mr, rfl, m7⟩; have M7 := Lib.hid m7; clear m7))
                exact ⟨⟨j + 1, by omega, by go_num, SJ.out.nil M7.out, MJ.out.trans M7.out⟩, by simp [intOf]; omega⟩
              · have hjtI : ((k : Nat) : Int) ≤ (j : Int) := by omega
                go_wp2_with (first
                  | (go_at_call 32; refine (a7there SJ.out (j := j) (b := [UInt8.ofNat j]) (by omega) (by rw [HRECS.out, rsP_length]; exact hlt2) (by rw [HRECS.out, rsP_get hlt2])).mono ?_; rintro e w7 ⟨Ar, cr, mr, rfl, lr, sr, m7⟩; obtain rfl : 1 = mr := lr; obtain ⟨br, or_, rfl, -, hcr⟩ := sr.at_ (by simp); have cb : w7.cell? ⟨br, or_, none⟩ = some (.int .u8 (j : Int)) := (by have := hcr 0 (.int .u8 ((UInt8.ofNat j).toNat : Int)) rfl; rw [ofNat_toNat j (by omega)] at this; exact this); have M7 := Lib.hid m7; clear m7 sr hcr))
                exact ⟨⟨j + 1, by omega, by go_num, SJ.out.nil M7.out, MJ.out.trans M7.out⟩, by simp [intOf]; omega⟩
            · obtain rfl : j = i := by omega
              go_wp2_with fail
              go_ret
              exact ⟨rfl, MJ.out⟩
        rcases Int.lt_or_le low 0 with hl2 | hl2
        · have hz : (0 : Int) ≤ 0 := by omega
          have HSURE : Hid (old.length = k) := Lib.hid (HO2.out (by omega))
          have HRECS : Hid (old.map (·.1) ++ news = rsP i) := by
            exact HREC
          go_wp2_with (first
            | (go_at_call 19; refine (a7trim2 S5.out D5.out 0 (t := 0) (by omega) (by rfl)).mono ?_; rintro e w6 ⟨rfl, s6, d6, m6⟩; have S6 := Lib.hid s6; have M6 := Lib.hid (SM.nilTrans M5.out (Nat.le_refl _) m6); clear s6 d6 m6)
            | (go_at_call 19; refine (a7trim HA.out low (t := 0) ?_ ?_).mono ?_; (focus (rw [HSURE.out]; omega)); (focus (rw [HSURE.out]; omega)); rintro e w5 ⟨rfl, ⟨mb, s5⟩, d5, m5⟩; have S5 := Lib.hid s5; have D5 := Lib.hid d5; have M5 := Lib.hid (SM.nilTrans HM.out (Nat.le_refl _) m5); clear s5 d5 m5))
          go_loopw [18] (fun x wr => ∃ (j : Nat), j ≤ i ∧ x = .int .i64 (j : Int) ∧ SegIn wr w.heap.size sb db mb ((runS 0 old news 1 30).at_ 0) ∧ Mods Nil w wr) (fun x _ => i - (intOf x).toNat)
          case atStart => exact ⟨0, Nat.zero_le _, rfl, S6.out, M6.out⟩
          case round =>
            obtain ⟨j, hj, rfl, hs, hmo⟩ := hrel
            have SJ := Lib.hid hs
            have MJ := Lib.hid hmo
            clear hs hmo
            by_cases hlt2 : j < i
            · have hltJ : (j : Int) < (i : Int) := by omega
              have v8 : IntKind.i64.wrap ((j : Int) + 1) = (j : Int) + 1 := by rw [IntKind.wrap_i64]; omega
              have v9 : IntKind.u8.wrap (j : Int) = (j : Int) := by rw [IntKind.wrap_u8']; omega
              by_cases hjt : j < 0
              · have hjtI : (j : Int) < (0 : Nat) := by omega
                exact absurd hjt (by omega)
              · have hjtI : ((0 : Nat) : Int) ≤ (j : Int) := by omega
                go_wp2_with (first
                  | (go_at_call 32; refine (a7there SJ.out (j := j) (b := [UInt8.ofNat j]) (by omega) (by rw [HRECS.out, rsP_length]; exact hlt2) (by rw [HRECS.out, rsP_get hlt2])).mono ?_; rintro e w7 ⟨Ar, cr, mr, rfl, lr, sr, m7⟩; obtain rfl : 1 = mr := lr; obtain ⟨br, or_, rfl, -, hcr⟩ := sr.at_ (by simp); have cb : w7.cell? ⟨br, or_, none⟩ = some (.int .u8 (j : Int)) := (by have := hcr 0 (.int .u8 ((UInt8.ofNat j).toNat : Int)) rfl; rw [ofNat_toNat j (by omega)] at this; exact this); have M7 := Lib.hid m7; clear m7 sr hcr))
                exact ⟨⟨j + 1, by omega, by go_num, SJ.out.nil M7.out, MJ.out.trans M7.out⟩, by simp [intOf]; omega⟩
            · obtain rfl : j = i := by omega
              go_wp2_with fail
              go_ret
              exact ⟨rfl, MJ.out⟩
        obtain ⟨t, rfl⟩ : ∃ t : Nat, low = (t : Int) := ⟨low.toNat, by omega⟩
        have HSURE : Hid (old.length = k) := Lib.hid (HO2.out (by omega))
        have HRECS : Hid (old.map (·.1) ++ news = rsP i) := by
          exact HREC
        go_wp2_with (first
          | (go_at_call 19; refine (a7trim2 S5.out D5.out 0 (t := t) (by omega) (by rfl)).mono ?_; rintro e w6 ⟨rfl, s6, d6, m6⟩; have S6 := Lib.hid s6; have M6 := Lib.hid (SM.nilTrans M5.out (Nat.le_refl _) m6); clear s6 d6 m6)
          | (go_at_call 19; refine (a7trim HA.out (t : Int) (t := t) ?_ ?_).mono ?_; (focus (rw [HSURE.out]; omega)); (focus (rw [HSURE.out]; omega)); rintro e w5 ⟨rfl, ⟨mb, s5⟩, d5, m5⟩; have S5 := Lib.hid s5; have D5 := Lib.hid d5; have M5 := Lib.hid (SM.nilTrans HM.out (Nat.le_refl _) m5); clear s5 d5 m5))
        go_loopw [18] (fun x wr => ∃ (j : Nat), j ≤ i ∧ x = .int .i64 (j : Int) ∧ SegIn wr w.heap.size sb db mb ((runS 0 old news 1 30).at_ t) ∧ Mods Nil w wr) (fun x _ => i - (intOf x).toNat)
        case atStart => exact ⟨0, Nat.zero_le _, rfl, S6.out, M6.out⟩
        case round =>
          obtain ⟨j, hj, rfl, hs, hmo⟩ := hrel
          have SJ := Lib.hid hs
          have MJ := Lib.hid hmo
          clear hs hmo
          by_cases hlt2 : j < i
          · have hltJ : (j : Int) < (i : Int) := by omega
            have v8 : IntKind.i64.wrap ((j : Int) + 1) = (j : Int) + 1 := by rw [IntKind.wrap_i64]; omega
            have v9 : IntKind.u8.wrap (j : Int) = (j : Int) := by rw [IntKind.wrap_u8']; omega
            by_cases hjt : j < t
            · have hjtI : (j : Int) < (t : Nat) := by omega
              go_wp2_with (first
                | (go_at_call 32; refine (a7gone SJ.out (j := j) hjt (by rw [HRECS.out, rsP_length]; exact hlt2)).mono ?_; rintro e w7 ⟨Ar, cr, mr, rfl, m7⟩; have M7 := Lib.hid m7; clear m7))
              exact ⟨⟨j + 1, by omega, by go_num, SJ.out.nil M7.out, MJ.out.trans M7.out⟩, by simp [intOf]; omega⟩
            · have hjtI : ((t : Nat) : Int) ≤ (j : Int) := by omega
              go_wp2_with (first
                | (go_at_call 32; refine (a7there SJ.out (j := j) (b := [UInt8.ofNat j]) (by omega) (by rw [HRECS.out, rsP_length]; exact hlt2) (by rw [HRECS.out, rsP_get hlt2])).mono ?_; rintro e w7 ⟨Ar, cr, mr, rfl, lr, sr, m7⟩; obtain rfl : 1 = mr := lr; obtain ⟨br, or_, rfl, -, hcr⟩ := sr.at_ (by simp); have cb : w7.cell? ⟨br, or_, none⟩ = some (.int .u8 (j : Int)) := (by have := hcr 0 (.int .u8 ((UInt8.ofNat j).toNat : Int)) rfl; rw [ofNat_toNat j (by omega)] at this; exact this); have M7 := Lib.hid m7; clear m7 sr hcr))
              exact ⟨⟨j + 1, by omega, by go_num, SJ.out.nil M7.out, MJ.out.trans M7.out⟩, by simp [intOf]; omega⟩
          · obtain rfl : j = i := by omega
            go_wp2_with fail
            go_ret
            exact ⟨rfl, MJ.out⟩
end Go.Proofs.Ytgebcpfgihcoiaa
