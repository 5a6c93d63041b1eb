/- SegmentErrs' walk. -/
import Derived.Test.YtgebcpfgihcoiaaSegmentGivesWalk
namespace Go.Proofs.Ytgebcpfgihcoiaa
set_option maxRecDepth 1000000
open Go.RowKit
set_option linter.unusedVariables false

/-- A disk that stops at a call; behind it the error stays. -/
structure Er (n a i : Nat) (d : PD) (s : PSeg) : Prop where
  w : d.W.length ≤ i
  l : ∃ r, s.L = rsP n ++ r
  sure : s.sure = n
  gone : s.gone = 0
  err : s.err = if i ≤ a then 0 else 20
  left : i ≤ a → d.left = ((a - i : Nat) : Int) ∧ d.down = false ∧ d.L.length = 40 ∧ s.start = 0 ∧ s.used = n + i ∧ s.n = 40
theorem Er.step {n a i : Nat} {d : PD} {s : PSeg} (h : Er n a i d s) (hn : n ≤ 8) (hi : i < 12) : (s.append d [9]).2.2.2 = (if i < a then 0 else 20) ∧ Er n a (i + 1) (s.append d [9]).1 (s.append d [9]).2.1 := by
  obtain ⟨r, hr⟩ := h.l
  by_cases h1 : i ≤ a
  · obtain ⟨k1, k2, k3, k4, k5, k6⟩ := h.left h1
    have he := h.err
    rw [if_pos h1] at he
    have hb : (blockP s.epoch s.L.length 0 1 (partP [9] 0)).length = 64 := blockP_length (by rw [partP_length]; simp)
    have hrec : recP s.epoch s.L.length [9] = [blockP s.epoch s.L.length 0 1 (partP [9] 0)] := rfl
    have hat : d.at_ ((s.start + s.used : Nat) : Int) = 0 := by
      unfold PD.at_
      rw [k2, if_neg (by simp), if_neg (by omega)]
    by_cases h2 : i < a
    · have hc : d.count = ({ d with left := d.left - 1 }, 0) := by
        unfold PD.count
        rw [if_neg (by omega), if_pos (by omega)]
      have hwr : d.write ((s.start + s.used : Nat) : Int) (blockP s.epoch s.L.length 0 1 (partP [9] 0)) = ({ d with left := d.left - 1, W := d.W ++ [(s.start + s.used, blockP s.epoch s.L.length 0 1 (partP [9] 0))] }, 0) := by
        unfold PD.write
        rw [hat, if_neg (by simp), if_neg (by omega), hc, if_neg (by simp)]
        rfl
      have hp : putsP d (s.start + s.used) (recP s.epoch s.L.length [9]) = ({ d with left := d.left - 1, W := d.W ++ [(s.start + s.used, blockP s.epoch s.L.length 0 1 (partP [9] 0))] }, 0) := by
        rw [hrec]
        simp only [putsP]
        rw [hwr, if_neg (by simp)]
      have hx : s.append d [9] = ({ d with left := d.left - 1, W := d.W ++ [(s.start + s.used, blockP s.epoch s.L.length 0 1 (partP [9] 0))] }, s.add [9] 1, (s.L.length : Int), 0) := by
        unfold PSeg.append
        rw [if_neg (by simp), if_neg (by simp [he]), if_neg (by show ¬ (s.n - s.used < 1); omega), hp, if_neg (by simp)]
        rfl
      rw [hx, if_pos h2]
      refine ⟨rfl, ⟨by have := h.w; simp; omega, ⟨r ++ [[9]], by simp [PSeg.add, hr]⟩, h.sure, h.gone, by rw [if_pos (by omega)]; exact he, fun _ => ⟨?_, k2, k3, k4, ?_, k6⟩⟩⟩
      · show d.left - 1 = _
        omega
      · show s.used + 1 = _
        omega
    · have hc : d.count = ({ d with down := true }, 20) := by
        unfold PD.count
        rw [if_pos (by omega)]
      have hwr : d.write ((s.start + s.used : Nat) : Int) (blockP s.epoch s.L.length 0 1 (partP [9] 0)) = ({ d with down := true }, 20) := by
        unfold PD.write
        rw [hat, if_neg (by simp), if_neg (by omega), hc, if_pos (by simp)]
      have hp : putsP d (s.start + s.used) (recP s.epoch s.L.length [9]) = ({ d with down := true }, 20) := by
        rw [hrec]
        simp only [putsP]
        rw [hwr, if_pos (by simp)]
      have hx : s.append d [9] = ({ d with down := true }, s.fail 20, 0, 20) := by
        unfold PSeg.append
        rw [if_neg (by simp), if_neg (by simp [he]), if_neg (by show ¬ (s.n - s.used < 1); omega), hp, if_pos (by simp)]
        rfl
      rw [hx, if_neg h2]
      exact ⟨rfl, ⟨by have := h.w; simp; omega, ⟨r, hr⟩, h.sure, h.gone, by rw [if_neg (by omega)]; rfl, fun h => absurd h (by omega)⟩⟩
  · have he := h.err
    rw [if_neg h1] at he
    have hx : s.append d [9] = (d, s, 0, 20) := by
      unfold PSeg.append
      rw [if_neg (by simp), if_pos (by simp [he]), he]
    rw [hx, if_neg (by omega)]
    exact ⟨rfl, ⟨by have := h.w; simp; omega, ⟨r, hr⟩, h.sure, h.gone, by rw [if_neg (by omega)]; exact he, fun h => absurd h (by omega)⟩⟩
theorem rsP_used (j : Nat) : usedP (with_ 1 (rsP j)) = j := by
  induction j with
  | zero => rfl
  | succ j ih =>
    rw [rsP_next, with_snoc, ih]
    rfl
set_option maxHeartbeats 12800000 in
theorem segmentErrs_walk (w : World) {z0 : Int} (hz0 : (Lit.int .u8 z0).wf = true) {z1 : Int} (hz1 : (Lit.int .u8 z1).wf = true) {z2 : Int} (hz2 : (Lit.int .u8 z2).wf = true) :
    Calls Try.prog 8 #[.int .u8 z0, .int .u8 z1, .int .u8 z2] w fun e w' => e = .returned (.bool true) ∧ Mods Nil w w' := by
  obtain ⟨p, rfl, hp⟩ := u8_nat7 hz0
  obtain ⟨q, rfl, hq⟩ := u8_nat7 hz1
  obtain ⟨r, rfl, hr⟩ := u8_nat7 hz2
  clear hz0 hz1 hz2
  obtain ⟨n0, hn0⟩ : ∃ n0, p % 8 = n0 := ⟨_, rfl⟩
  obtain ⟨n, hn⟩ : ∃ n, n0 + 1 = n := ⟨_, rfl⟩
  obtain ⟨a, ha⟩ : ∃ a, q % 4 = a := ⟨_, rfl⟩
  obtain ⟨m, hm⟩ : ∃ m, r % 12 = m := ⟨_, rfl⟩
  have t1 : Int.tmod (p : Int) 8 = (n0 : Int) := by rw [Int.tmod_eq_emod_of_nonneg (by omega)]; omega
  have t2 : Int.tmod (q : Int) 4 = (a : Int) := by rw [Int.tmod_eq_emod_of_nonneg (by omega)]; omega
  have t3 : Int.tmod (r : Int) 12 = (m : Int) := by rw [Int.tmod_eq_emod_of_nonneg (by omega)]; omega
  have v1 : IntKind.u8.wrap (n0 : Int) = (n0 : Int) := by rw [IntKind.wrap_u8']; omega
  have v2 : IntKind.i64.wrap (n0 : Int) = (n0 : Int) := by rw [IntKind.wrap_i64]; omega
  have v3 : (n0 : Int) + 1 = (n : Int) := by omega
  have v3b : IntKind.i64.wrap (n : Int) = (n : Int) := by rw [IntKind.wrap_i64]; omega
  have v4 : IntKind.u8.wrap (a : Int) = (a : Int) := by rw [IntKind.wrap_u8']; omega
  have v5 : IntKind.i64.wrap (a : Int) = (a : Int) := by rw [IntKind.wrap_i64]; omega
  have v6 : IntKind.u8.wrap (m : Int) = (m : Int) := by rw [IntKind.wrap_u8']; omega
  have v7 : IntKind.i64.wrap (m : Int) = (m : Int) := by rw [IntKind.wrap_i64]; omega
  have HN := Lib.hid (new7 40 (by omega) (by omega))
  have HO := Lib.hid (open7 40 (by omega) (by omega))
  have HN8 := Lib.hid (show 1 ≤ n ∧ n ≤ 8 by omega)
  have HA4 := Lib.hid (show a < 4 by omega)
  have HM12 := Lib.hid (show m < 12 by omega)
  clear hn hn0 ha hm hp hq hr
  go_enter Try.func8, Try.ntmps8
  go_wp2_with (first
    | (go_at_call 9; refine (awake7_any _).mono ?_; rintro e w1 ⟨rfl, m1⟩; have M1 := Lib.hid m1; clear m1)
    | (go_at_call 10; refine (HN.out _ w.heap.size M1.out.size).mono ?_; rintro e w2 ⟨db, rfl, d2, m2⟩; have D2 := Lib.hid d2; have M2 := Lib.hid (M1.out.trans m2); clear d2 m2)
    | (go_at_call 12; refine (HO.out _ w.heap.size _ D2.out M2.out.size).mono ?_; rintro e w3 ⟨sb, rfl, a3, m3⟩; have A3 := Lib.hid a3; have M3 := Lib.hid (M2.out.trans m3); clear a3 m3))
  go_loopw [13] (fun x wr => ∃ (i : Nat), i ≤ n ∧ x = .int .i64 (i : Int) ∧ At7 wr w.heap.size sb db [] (List.replicate 40 zeros64) [] [] (rsP i) 1 40 ∧ Mods Nil w wr) (fun x _ => n - (intOf x).toNat)
  case atStart => exact ⟨0, Nat.zero_le _, rfl, A3.out, M3.out⟩
  case round =>
    obtain ⟨i, hi, rfl, hg, hmo⟩ := hrel
    have HA := Lib.hid hg
    have HM := Lib.hid hmo
    clear hg hmo
    by_cases hlt : i < n
    · have hltI : (i : Int) < (n : Int) := by omega
      have hi8 : i < 8 := by have := HN8.out; omega
      have w6 : IntKind.i64.wrap ((i : Int) + 1) = (i : Int) + 1 := by rw [IntKind.wrap_i64]; omega
      have w7 : IntKind.u8.wrap (i : Int) = (i : Int) := by rw [IntKind.wrap_u8']; omega
      have hcs : Hid (#[Value.int .u8 (i : Int)] = (bts [UInt8.ofNat i]).toArray) := by
        show _ = _
        simp [bts]
        omega
      go_wp2_with (first
        | (go_at_call 14; refine (a7append (q := 1) (b := [UInt8.ofNat i]) (k := (i : Int)) (HA.out.nil ((Mods.refl Nil wr).alloc _)) (by rw [rsP_used]; omega) (sb_new (n := 1) w.heap.size wr hcs.out rfl (by unfold maxLen; omega)) rfl (by omega) ?_ ?_).mono ?_; (focus (rw [rsP_used]; show 0 + i + 1 ≤ 40; omega)); (focus (simp [rsP_length])); rintro e w5 ⟨rfl, a5, m5⟩; have A5 := Lib.hid a5; have M5 := Lib.hid (SM.nilTrans (HM.out.alloc _) (Nat.le_refl _) m5); clear a5 m5))
      exact ⟨⟨i + 1, by omega, by go_num, by rw [rsP_next]; exact A5.out, M5.out⟩, by simp [intOf]; omega⟩
    · obtain rfl : i = n := by omega
      go_wp2_with (first
        | (go_at_call 17; refine (a7sync HA.out (by omega)).mono ?_; rintro e w4 ⟨rfl, a4, m4⟩; have A4 := Lib.hid a4; have M4 := Lib.hid (SM.nilTrans HM.out (Nat.le_refl _) m4); clear a4 m4)
        | (go_at_call 21; refine (dstop_any A4.out.at_.1 (k := (a : Int)) (by have := HA4.out; omega)).mono ?_; rintro e w5 ⟨rfl, d5, m5⟩; have D5 := Lib.hid d5; have S5 : Hid (∃ mb, SegIn w5 w.heap.size sb db mb (runS 0 ([] ++ with_ 1 (rsP i)) [] 1 40)) := (by obtain ⟨mb, hs⟩ := A4.out.at_.2; exact Lib.hid ⟨mb, hs.dm m5⟩); have M5 := Lib.hid (DM.nilTrans M4.out (Nat.le_refl _) m5); clear d5 m5))
      have HER0 : Hid (Er i a 0 ((runD [] (layAll (List.replicate 40 zeros64) (rowW (usedP []) (blocksOf 1 ([] : Recs).length (rsP i)))) [] ([] ++ with_ 1 (rsP i)) [] 1).stop (a : Int)) (runS 0 ([] ++ with_ 1 (rsP i)) [] 1 40)) := by
        refine Lib.hid ⟨by simp [PD.stop, runD, blocksOf, rowW], ⟨[], by simp [runS, with_fst]⟩, by simp [runS, with_length, rsP_length], rfl, rfl, fun _ => ⟨?_, rfl, ?_, rfl, ?_, rfl⟩⟩
        · simp only [PD.stop]
          rw [if_neg (by omega)]
          rfl
        · simp [PD.stop, runD, layAll_length]
        · have := rsP_used i
          simp [runS, with_nil, usedP, this]
      go_loopw [14, 15] (fun fl x wr => ∃ (j : Nat) (d : PD) (s : PSeg), j ≤ m ∧ x = .int .i64 (j : Int) ∧ fl = .bool (decide (a < j)) ∧ Er i a j d s ∧ SegAt wr w.heap.size sb db d s ∧ Mods Nil w wr) (fun _ x _ => m - (intOf x).toNat)
      case atStart => exact ⟨0, _, _, Nat.zero_le _, rfl, by simp, HER0.out, ⟨D5.out, S5.out⟩, M5.out⟩
      case round =>
        obtain ⟨j, d, s, hj, rfl, rfl, her, hsa, hmo⟩ := hrel
        have HER := Lib.hid her
        have HSA := Lib.hid hsa
        have HMO := Lib.hid hmo
        clear her hsa hmo
        by_cases hlt2 : j < m
        · have hltJ : (j : Int) < (m : Int) := by omega
          have w8 : IntKind.i64.wrap ((j : Int) + 1) = (j : Int) + 1 := by rw [IntKind.wrap_i64]; have := HM12.out; omega
          have HST := Lib.hid (HER.out.step HN8.out.2 (by have := HM12.out; omega))
          have HAP : Hid (Calls Try.prog 14 #[.pointer (some ⟨sb, 0, none⟩), .slice (some ⟨wr.heap.size, 0, none⟩) 1 1] (wr.alloc (.cells #[.int .u8 9] 5)) fun e w' => e = .returned (.tuple #[.int .i64 (s.append d [9]).2.2.1, .int .i64 (s.append d [9]).2.2.2]) ∧ SegAt w' w.heap.size sb db (s.append d [9]).1 (s.append d [9]).2.1 ∧ SM w.heap.size (wr.alloc (.cells #[.int .u8 9] 5)) w') := Lib.hid (sappend_any (HSA.out.nil ((Mods.refl Nil wr).alloc _)) (by have := HER.out.w; have := HM12.out; omega) (sb_new (n := 1) w.heap.size wr (xs := [9]) rfl rfl (by unfold maxLen; omega)) rfl)
          obtain ⟨X, hX⟩ : ∃ X, s.append d [9] = X := ⟨_, rfl⟩
          rw [hX] at HST HAP
          obtain ⟨er, her⟩ : ∃ er, X.2.2.2 = er := ⟨_, rfl⟩
          rw [her] at HST HAP
          clear hX her
          by_cases hja : j < a
          · have hjaI : (j : Int) < (a : Int) := by omega
            have hfl : decide (a < j) = false := by simp; omega
            obtain rfl : er = 0 := by have := HST.out.1; rw [if_pos hja] at this; exact this
            go_wp2_with (first
              | (go_at_call 14; refine HAP.out.mono ?_; rintro e w6 ⟨rfl, s6, m6⟩; have S6 := Lib.hid s6; have M6 := Lib.hid (SM.nilTrans (HMO.out.alloc _) (Nat.le_refl _) m6); clear s6 m6))
            exact ⟨⟨j + 1, _, _, by omega, by go_num, by simp; omega, HST.out.2, S6.out, M6.out⟩, by simp [intOf]; omega⟩
          · have hjaI : (a : Int) ≤ (j : Int) := by omega
            obtain rfl : er = 20 := by have := HST.out.1; rw [if_neg hja] at this; exact this
            obtain ⟨fl, hfl⟩ : ∃ fl, decide (a < j) = fl := ⟨_, rfl⟩
            rw [hfl]
            cases fl with
            | true =>
              go_wp2_with (first
                | (go_at_call 14; refine HAP.out.mono ?_; rintro e w6 ⟨rfl, s6, m6⟩; have S6 := Lib.hid s6; have M6 := Lib.hid (SM.nilTrans (HMO.out.alloc _) (Nat.le_refl _) m6); clear s6 m6))
              exact ⟨⟨j + 1, _, _, by omega, by go_num, by simp; omega, HST.out.2, S6.out, M6.out⟩, by simp [intOf]; omega⟩
            | false =>
              go_wp2_with (first
                | (go_at_call 14; refine HAP.out.mono ?_; rintro e w6 ⟨rfl, s6, m6⟩; have S6 := Lib.hid s6; have M6 := Lib.hid (SM.nilTrans (HMO.out.alloc _) (Nat.le_refl _) m6); clear s6 m6))
              exact ⟨⟨j + 1, _, _, by omega, by go_num, by simp; omega, HST.out.2, S6.out, M6.out⟩, by simp [intOf]; omega⟩
        · obtain rfl : j = m := by omega
          have hjI : (j : Int) ≤ (j : Int) := by omega
          go_wp2_with fail
          go_loopw [18] (fun x wr => ∃ (t : Nat), t ≤ i ∧ x = .int .i64 (t : Int) ∧ SegAt wr w.heap.size sb db d s ∧ Mods Nil w wr) (fun x _ => i - (intOf x).toNat)
          case atStart => exact ⟨0, Nat.zero_le _, rfl, HSA.out, HMO.out⟩
          case round =>
            obtain ⟨t, ht, rfl, hs, hmo⟩ := hrel
            have ST := Lib.hid hs
            have MT := Lib.hid hmo
            clear hs hmo
            by_cases hlt3 : t < i
            · have hltT : (t : Int) < (i : Int) := by omega
              have ht8 : t < 8 := by have := HN8.out; omega
              have w9 : IntKind.i64.wrap ((t : Int) + 1) = (t : Int) + 1 := by rw [IntKind.wrap_i64]; omega
              have w10 : IntKind.u8.wrap (t : Int) = (t : Int) := by rw [IntKind.wrap_u8']; omega
              have HRD : Hid (Calls Try.prog 32 #[.pointer (some ⟨sb, 0, none⟩), .int .i64 (t : Int)] wr fun e w' => ∃ A c m, e = .returned (.tuple #[.slice A m c, .int .i64 0]) ∧ [UInt8.ofNat t].length = m ∧ Sl w' A c (bts [UInt8.ofNat t]) ∧ Mods Nil wr w') := by
                obtain ⟨mb, hs⟩ := ST.out.2
                have := sread_in hs (t : Int)
                have e : s.read (t : Int) = ([UInt8.ofNat t], 0) := by
                  obtain ⟨r, hr⟩ := HER.out.l
                  have hg := HER.out.gone
                  unfold PSeg.read
                  rw [hr, hg, if_neg (by simp [rsP_length]; omega), if_neg (by simp)]
                  have : (rsP i ++ r).getD t [] = (rsP i).getD t [] := by simp [List.getD_eq_getElem?_getD, List.getElem?_append_left (show t < (rsP i).length by rw [rsP_length]; exact hlt3)]
                  rw [Int.toNat_natCast, this, rsP_get hlt3]
                unfold ReadTold at this
                rw [e] at this
                exact Lib.hid this
              go_wp2_with (first
                | (go_at_call 32; refine HRD.out.mono ?_; rintro e w7 ⟨Ar, cr, mr, rfl, lr, sr, m7⟩; obtain rfl : 1 = mr := lr; obtain ⟨br, or_, rfl, -, hcr⟩ := sr.at_ (by simp); have cb : w7.cell? ⟨br, or_, none⟩ = some (.int .u8 (t : Int)) := (by have := hcr 0 (.int .u8 ((UInt8.ofNat t).toNat : Int)) rfl; rw [ofNat_toNat t (by omega)] at this; exact this); have M7 := Lib.hid m7; clear m7 sr hcr))
              exact ⟨⟨t + 1, by omega, by go_num, ST.out.nil M7.out, MT.out.trans M7.out⟩, by simp [intOf]; omega⟩
            · obtain rfl : t = i := by omega
              have HSU : Hid (Calls Try.prog 31 #[.pointer (some ⟨sb, 0, none⟩)] wr fun e w' => e = .returned (.int .i64 (t : Int)) ∧ Mods Nil wr w') := by
                obtain ⟨mb, hs⟩ := ST.out.2
                have := ssure_in hs
                rw [HER.out.sure] at this
                exact Lib.hid this
              by_cases hjf : a < j
              · have hfl : decide (a < j) = true := by simpa using hjf
                have HSY : Hid (∀ V, Mods Nil wr V → Calls Try.prog 17 #[.pointer (some ⟨sb, 0, none⟩)] V fun e w' => e = .returned (.int .i64 20) ∧ SM w.heap.size V w') := Lib.hid (fun V hV => by
                  have := ssync_any (ST.out.nil hV)
                  have e : (s.sync d).2.2 = 20 := by
                    have he := HER.out.err
                    rw [if_neg (by omega)] at he
                    unfold PSeg.sync
                    rw [if_pos (by simp [he])]
                    exact he
                  rw [e] at this
                  exact this.mono (fun e w' ⟨h1, _, h3⟩ => ⟨h1, h3⟩))
                go_wp2_with (first
                  | (go_at_call 31; refine HSU.out.mono ?_; rintro e w8 ⟨rfl, m8⟩; have M8 := Lib.hid m8; clear m8)
                  | (go_at_call 17; refine (HSY.out _ M8.out).mono ?_; rintro e w9 ⟨rfl, m9⟩; have M9 := Lib.hid (SM.nilTrans (MT.out.trans M8.out) (Nat.le_refl _) m9); clear m9))
                go_ret
                exact ⟨rfl, M9.out⟩
              · have hfl : decide (a < j) = false := by simp; omega
                go_wp2_with (first
                  | (go_at_call 31; refine HSU.out.mono ?_; rintro e w8 ⟨rfl, m8⟩; have M8 := Lib.hid m8; clear m8))
                go_ret
                exact ⟨rfl, MT.out.trans M8.out⟩
end Go.Proofs.Ytgebcpfgihcoiaa
