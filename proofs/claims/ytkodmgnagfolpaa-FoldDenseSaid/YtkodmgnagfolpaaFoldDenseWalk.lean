/- The walk of notcherlaw11.FoldDense. -/
import Derived.Test.YtkodmgnagfolpaaLaw11M
namespace Go.Proofs.Ytkodmgnagfolpaa
set_option maxRecDepth 1000000
open Go.RowKit
set_option linter.unusedVariables false
set_option linter.unusedSimpArgs false

/-- What Find tells of a position, and Place of what it told. -/
theorem dense_find {s : PF} (hg : s.good) (hlow : s.low = 0) {p : Nat} (hp : p < s.n) : ∃ hh gg oo : Nat, hh ≤ 7 ∧ gg ≤ 3 ∧ oo < s.n ∧ oo = cntAt hh gg p s.L ∧ (∀ h g : Nat, cntAt h g (p + 1) s.L = cntAt h g p s.L + (if h = hh ∧ g = gg then 1 else 0)) ∧
    (∀ {w w' : World} {e : Ending}, FTold w s p e w' → e = .returned (.tuple #[.int .i64 (hh : Int), .int .i64 (gg : Int), .int .u64 (oo : Int), .int .i64 0]) ∧ Mods Nil w w') ∧
    (∀ {w w' : World} {e : Ending}, PTold w s hh gg oo e w' → e = .returned (.tuple #[.int .u64 (p : Int), .int .i64 0]) ∧ Mods Nil w w') := by
  obtain ⟨i, hi, ha, hc, hn⟩ := dense_one hg hp
  obtain ⟨q, hq, h7, hseg, hl4, hls, hoff⟩ := good_span hg hi
  have h1 := ha.1
  have h2 := ha.2
  have hfe : findE s p = 0 := by unfold findE; rw [if_neg (by omega), if_neg (by omega)]
  have hle := span_le hg hi
  have hsh : s.L[i].sh = ((s.L[i].sh.toNat : Nat) : Int) := by omega
  refine ⟨s.L[i].sh.toNat, s.L[i].seg, s.L[i].off + (p - s.L[i].pos), by omega, by omega, by omega, by rw [← hsh]; exact hc, fun h g => ?_, ?_, ?_⟩
  · rw [hn]
    congr 1
    by_cases hx : h = s.L[i].sh.toNat ∧ g = s.L[i].seg
    · rw [if_pos hx, if_pos ⟨by omega, hx.2.symm⟩]
    · rw [if_neg hx, if_neg (fun hy => hx ⟨by omega, hy.2.symm⟩)]
  · rintro w w' e ⟨-, g2, g3⟩
    obtain ⟨i', hi', ha', he⟩ := g2 hfe
    obtain rfl := at_one hg.ok hi' hi ha' ha
    exact ⟨by rw [he, ← hsh], g3⟩
  · rintro w w' e ⟨-, g2, g3⟩
    rw [← hsh] at g2
    have hpe : placeE s s.L[i].sh (s.L[i].seg : Int) (s.L[i].off + (p - s.L[i].pos)) = 0 := by
      unfold placeE
      rw [hq]
      simp only []
      rw [if_neg (by omega), if_neg (by rw [Int.toNat_natCast]; omega)]
    obtain ⟨j, hj, hh, he⟩ := g2 hpe
    rw [Int.toNat_natCast] at hh
    refine ⟨?_, g3⟩
    rw [he, place_one hg hi hj ha hh]
set_option maxHeartbeats 6400000 in
theorem foldDense_walk (w : World) {A : Option Addr} {n c : Nat} {l : List CmdP} (h : Cmds w A n c l) : Calls Try.prog 3 #[.slice A n c] w fun e w' => e = .returned (.bool true) ∧ Mods Nil w w' := by
  have HC := Lib.hid h
  clear h
  go_enter Try.func3, Try.ntmps3
  go_wp2_with (first
    | (go_at_call 9; refine (awake11_any _).mono ?_; rintro e w1 ⟨rfl, m1⟩; have M1 := Lib.hid m1; clear m1)
    | (go_at_call 10; refine (new_has1 M1.out).mono ?_; rintro e w2 ⟨b, rfl, h2⟩; have H2 := Lib.hid h2; clear h2 M1))
  go_loopw [5] (fun x wr => ∃ (j : Nat) (s : PF), j ≤ n ∧ j ≤ 16 ∧ x = .int .i64 (j : Int) ∧ HasS w wr Nil b s (2 * j) ∧ s.low = 0) (fun x _ => n - (intOf x).toNat)
  case atStart => exact ⟨0, {}, Nat.zero_le _, by omega, rfl, H2.out, rfl⟩
  case round =>
    obtain ⟨j, s, hj, hj24, rfl, h4, hlow⟩ := hrel
    have H4 := Lib.hid h4
    have HLOW := Lib.hid hlow
    clear H2 h4 hlow
    by_cases hlt : j < n ∧ j < 16
    · obtain ⟨hlt, h24⟩ := hlt
      have hltI : (j : Int) < (n : Int) := by omega
      have h24I : (j : Int) < 16 := by omega
      obtain ⟨g, off, q, rfl, -, hgood, hz⟩ := HC.out.get hlt
      obtain ⟨z0, z1, z2, z3, z4, z5, z6⟩ := hz _ H4.out.m
      have HQ := Lib.hid hgood
      have HZ := Lib.hid hz
      obtain ⟨sb, hsb⟩ : ∃ sb, shortB q.c = sb := ⟨_, rfl⟩
      have HSH := Lib.hid (short_in hgood H4.out.m)
      rw [hsb] at HSH
      have HSB := Lib.hid hsb
      clear hgood hz hsb
      cases sb with
      | false =>
        go_wp2_with (first
          | (go_at_call 11; refine HSH.out.mono ?_; rintro e w5 ⟨rfl, m5⟩; have M5 := Lib.hid (H4.out.m.trans m5); clear m5))
        go_ret
        exact ⟨rfl, M5.out⟩
      | true =>
        by_cases ho : q.c.op = 3
        · have ho1 : (q.c.op == 3) = true := by rw [beq_iff_eq]; exact ho
          clear ho
          go_wp2_with (first
            | (go_at_call 11; refine HSH.out.mono ?_; rintro e w5 ⟨rfl, m5⟩; have H5 := Lib.hid (H4.out.nil m5); obtain ⟨y0, y1, y2, y3, y4, y5, y6⟩ := HZ.out _ H5.out.m; clear m5 H4 z0 z1 z2 z3 z4 z5 z6))
          go_ret
          exact ⟨rfl, H5.out.m⟩
        · have ho1 : (q.c.op == 3) = false := by rw [beq_eq_false_iff_ne]; exact ho
          have HLO2 : Hid ((applyF s q.c).2.low = 0) := Lib.hid (by rw [apply_low ho]; exact HLOW.out)
          clear ho
          go_wp2_with (first
            | (go_at_call 11; refine HSH.out.mono ?_; rintro e w5 ⟨rfl, m5⟩; have H5 := Lib.hid (H4.out.nil m5); obtain ⟨y0, y1, y2, y3, y4, y5, y6⟩ := HZ.out _ H5.out.m; clear m5 H4 z0 z1 z2 z3 z4 z5 z6)
            | (go_at_call 12; refine (H5.out.apply_in (by omega) HQ.out HSB.out).mono ?_; rintro e w6 ⟨rfl, h6, -⟩; have H6 := Lib.hid h6; clear h6 H5 y0 y1 y2 y3 y4 y5 y6))
          exact ⟨⟨j + 1, _, by omega, by omega, by go_num, H6.out, HLO2.out⟩, by simp [intOf]; omega⟩
    · have HT : Hid (2 * j ≤ 1000) := Lib.hid (by omega)
      obtain ⟨N, hN⟩ : ∃ N, s.n = N := ⟨_, rfl⟩
      have HN := Lib.hid hN
      have hex : j = n ∨ (j < n ∧ j = 16) := by omega
      clear hlt hN
      rcases hex with hex | ⟨hlt, hex⟩
      · subst hex
        by_cases h200 : 200 < N
        · have h200I : (200 : Int) < (N : Int) := by omega
          go_wp2_with (first
            | (go_at_call 13; refine (H4.out.len_ HT.out).mono ?_; rintro e w5 ⟨rfl, m5⟩; rw [HN.out]; have H5 := Lib.hid (H4.out.nil m5); clear m5 H4))
          go_ret
          exact ⟨rfl, H5.out.m⟩
        · have h200I : (N : Int) ≤ 200 := by omega
          obtain ⟨i0, hi, hz0, hz1, hz2⟩ := info_parts infoV64
          have HMK := fun V : World => run_make (P := Try.prog) V 34 27 i0 (.int .u64 0) Try.underlying34 hi hz0 .i64 .i64 64 64 (by omega) (by omega) (by rw [hz2]; omega) (by omega)
          rw [hz1] at HMK
          simp only [show Int.toNat 64 = 64 from rfl, Nat.mul_one] at HMK
          clear hi hz0 hz1 hz2
          go_wp2_with (first
            | (go_at_call 13; refine (H4.out.len_ HT.out).mono ?_; rintro e w5 ⟨rfl, m5⟩; rw [HN.out]; have H5 := Lib.hid (H4.out.nil m5); clear m5 H4))
          have O5 := Lib.hid (own_made_row (w := w5) (n := 64) (Nat.zero_le _) (by omega))
          clear HMK h200 h200I
          go_loopw [8] (fun x wr => ∃ (p : Nat) (zs : List Nat), p ≤ N ∧ x = .int .u64 (p : Int) ∧ Mods Nil w5 wr ∧ zs.length = 64 ∧ wr.ownsRow 0 27 1 (.slice (some ⟨w5.heap.size, 0, none⟩) 64 64) 64 (nums zs) ∧ ∀ h g : Nat, h ≤ 7 → g ≤ 3 → vat zs (8 * g + h) = cntAt h g p s.L) (fun x _ => N - (intOf x).toNat)
          case atStart => exact ⟨0, List.replicate 64 0, Nat.zero_le _, rfl, (Mods.refl Nil w5).alloc _, by simp, O5.out, fun h g _ _ => by rw [vat_replicate, cntAt_zero]⟩
          case round =>
            obtain ⟨p, zs, hp, rfl, m, hzl, o, hz⟩ := hrel
            clear O5
            have HM := Lib.hid m
            have HZ := Lib.hid hz
            have HZL := Lib.hid hzl
            have HO := Lib.hid o
            have H6 := Lib.hid (H5.out.nil m)
            have hN200 : N ≤ 200 := by omega
            by_cases hpN : p < N
            · have hpI : (p : Int) < (N : Int) := by omega
              obtain ⟨hh, gg, oo, hh7, gg3, hon, hoc, hcn, hfi, hpl⟩ := dense_find H5.out.good HLOW.out (p := p) (by rw [HN.out]; exact hpN)
              rw [HN.out] at hon
              have HFI := Lib.hid (fun W W' e => @hfi W W' e)
              have HPL := Lib.hid (fun W W' e => @hpl W W' e)
              have HCN := Lib.hid hcn
              have hk : 8 * gg + hh < 64 := by omega
              have hvz : vat zs (8 * gg + hh) = oo := by rw [hz hh gg hh7 gg3, hoc]
              have HL := Lib.hid (fun V (hV : Mods Nil wr V) => own_at_lit (own_mods o hV (fun _ _ h => h)) (nums_get zs (8 * gg + hh) (by rw [hzl]; exact hk)))
              rw [hvz] at HL
              have HVZ := Lib.hid (hvz.symm.trans (hz hh gg hh7 gg3))
              have i1 : ¬ ((hh : Int) < 0) := by omega
              have i2 : (hh : Int) ≤ 7 := by omega
              have i3 : ¬ ((gg : Int) < 0) := by omega
              have i4 : (gg : Int) ≤ 3 := by omega
              have hw1 : IntKind.i64.wrap (8 * (gg : Int)) = ((8 * gg : Nat) : Int) := by rw [IntKind.wrap_i64]; omega
              have hw2 : IntKind.i64.wrap (((8 * gg : Nat) : Int) + (hh : Int)) = ((8 * gg + hh : Nat) : Int) := by rw [IntKind.wrap_i64]; omega
              have hw3 : IntKind.u64.wrap ((oo : Int) + 1) = ((oo + 1 : Nat) : Int) := by rw [IntKind.wrap_u64]; omega
              have hw4 : IntKind.u64.wrap ((p : Int) + 1) = ((p + 1 : Nat) : Int) := by rw [IntKind.wrap_u64]; omega
              have hkI : ((8 * gg + hh : Nat) : Int) < 64 := by omega
              have HP64 : Hid (p < 18446744073709551616) := Lib.hid (by omega)
              have HO64 : Hid (oo < 18446744073709551616) := Lib.hid (by omega)
              have HH64 : Hid (in64 (hh : Int)) := Lib.hid (in64_of (by omega) (by omega))
              have HH7 := Lib.hid hh7
              have HG3 := Lib.hid gg3
              clear m hz hzl o hfi hpl hcn hoc hvz hon hh7 gg3
              go_wp2_with (first
                | (go_at_call 13; refine (H6.out.len_ HT.out).mono ?_; rintro e w7 ⟨rfl, m7⟩; rw [HN.out]; have M7 := Lib.hid m7; have H7 := Lib.hid (H6.out.nil m7); clear m7)
                | (go_at_call 14; refine (H7.out.find HT.out HP64.out).mono ?_; intro e w8 h8; obtain ⟨rfl, m8⟩ := HFI.out _ _ _ h8; have M8 := Lib.hid (M7.out.trans m8); have H8 := Lib.hid (H7.out.nil m8); clear h8 m8)
                | (go_at_call 15; refine (H8.out.place HT.out _ _ HH64.out HO64.out).mono ?_; intro e w9 h9; obtain ⟨rfl, m9⟩ := HPL.out _ _ _ h9; have M9 := Lib.hid (M8.out.trans m9); obtain ⟨q9, f9⟩ := HL.out _ M9.out; clear h9 m9))
              have MV := HM.out.trans M9.out
              refine ⟨⟨p + 1, zs.set (8 * gg + hh) (oo + 1), by omega, by go_num, Mods.setCell (p := ⟨w5.heap.size, 8 * gg + hh, none⟩) MV (fun h => absurd h (Nat.lt_irrefl _)) _, by simp [HZL.out], ?_, fun h g hh' hg' => ?_⟩, by simp [intOf]; omega⟩
              · have := own_cell_set (own_mods HO.out M9.out (fun _ _ h => h)) (8 * gg + hh) (.int .u64 ((oo + 1 : Nat) : Int))
                rw [nums_set] at this
                have e : (((oo + 1 : Nat) : Int)) = (oo : Int) + 1 := by omega
                rw [e] at this
                exact this
              · rw [vat_set (by rw [HZL.out]; exact hk), HCN.out]
                have h7 := HH7.out
                have h3 := HG3.out
                by_cases hx : h = hh ∧ g = gg
                · obtain ⟨rfl, rfl⟩ := hx
                  rw [if_pos rfl, if_pos ⟨rfl, rfl⟩, HVZ.out]
                · rw [if_neg (fun h' => hx (by omega)), if_neg hx, HZ.out h g hh' hg']
                  omega
            · obtain rfl : p = N := by omega
              clear m hz hzl o HZ HZL HO
              have HMN : Hid (∀ i, totH ((shardsF s).take i) ≤ p) := Lib.hid (fun i => by
                have h1 := shards_total H5.out.good
                have h2 := totH_append ((shardsF s).take i) ((shardsF s).drop i)
                rw [List.take_append_drop, h1, HN.out] at h2
                omega)
              have hts : totH (shardsF s) = p := (shards_total H5.out.good).trans HN.out
              have HTS := Lib.hid hts
              clear hts
              go_wp2_with (first
                | (go_at_call 13; refine (H6.out.len_ HT.out).mono ?_; rintro e w7 ⟨rfl, m7⟩; rw [HN.out]; have H7 := Lib.hid (H6.out.nil m7); clear m7 H6)
                | (go_at_call 16; refine (H7.out.shards HT.out).mono ?_; rintro e wa ⟨Aa, na, ca, la, rfl, hna, oa, pa, ma⟩; have Ha := Lib.hid (H7.out.nil ma); have HNA := Lib.hid hna; have OA := Lib.hid oa; have PA := Lib.hid pa; clear ma hna oa pa H7))
              have hna8 : na ≤ 8 := by rw [← HNA.out]; exact sh_many PA.out
              go_loopw [16, 17] (fun y x wr => ∃ (i : Nat), i ≤ na ∧ x = .int .i64 (i : Int) ∧ y = .int .u64 (totH ((shardsF s).take i) : Int) ∧ Mods Nil wa wr) (fun _ x _ => na - (intOf x).toNat)
              case atStart => exact ⟨0, Nat.zero_le _, rfl, rfl, Mods.refl _ _⟩
              case round =>
                obtain ⟨i, hi, rfl, rfl, m⟩ := hrel
                have HMM := Lib.hid m
                by_cases hiN : i < na
                · have hiI : (i : Int) < (na : Int) := by omega
                  obtain ⟨q, hq⟩ : ∃ q, la[i]? = some q := ⟨_, List.getElem?_eq_getElem (by rw [HNA.out]; exact hiN)⟩
                  obtain ⟨ga, rfl, -⟩ := own_some (A := Aa) (by have := OA.out.own; rw [HNA.out] at this; exact this) (by omega)
                  have HX := Lib.hid (fun V (hV : Mods Nil wa V) => (sh_lit (OA.out.nil hV) HNA.out hq).2.2.1)
                  have HSX := Lib.hid (fun V (hV : Mods Nil wa V) => (OA.out.nil hV).sl hq)
                  have HST : Hid (totH ((shardsF s).take (i + 1)) = totH ((shardsF s).take i) + total q.lens) := Lib.hid (by
                    have hp : (shardsF s)[i]? = some q.plain := by rw [← PA.out, List.getElem?_map, hq]; rfl
                    obtain ⟨hj3, e⟩ := List.getElem?_eq_some_iff.1 hp
                    rw [List.take_succ_eq_append_getElem hj3, e, totH_append]
                    simp [totH, ShP.plain])
                  have hb4 : q.lens.length ≤ 4 := sh_len Ha.out.good PA.out (List.mem_of_getElem? hq)
                  obtain ⟨t0, ht0⟩ : ∃ x, totH ((shardsF s).take i) = x := ⟨_, rfl⟩
                  have htot : t0 + total q.lens ≤ p := by have := HMN.out (i + 1); rw [HST.out, ht0] at this; exact this
                  rw [ht0] at HST ⊢
                  generalize q.lens = ql at HX HSX HST hb4 htot
                  obtain ⟨nl, hnl⟩ : ∃ x, ql.length = x := ⟨_, rfl⟩
                  rw [hnl] at HX hb4
                  have HNL := Lib.hid hnl
                  clear m hq ht0 hnl
                  go_wp2_with fail
                  go_loopw [16, 18] (fun y x wr => ∃ (k : Nat), k ≤ nl ∧ x = .int .i64 (k : Int) ∧ y = .int .u64 ((t0 + total (ql.take k) : Nat) : Int) ∧ Mods Nil wa wr) (fun _ x _ => nl - (intOf x).toNat)
                  case atStart => exact ⟨0, Nat.zero_le _, rfl, by simp [total_nil], HMM.out⟩
                  case round =>
                    obtain ⟨k, hk, rfl, rfl, m⟩ := hrel
                    have HM2 := Lib.hid m
                    have x2 := HX.out _ m
                    by_cases hkN : k < nl
                    · have hkI : (k : Int) < (nl : Int) := by omega
                      obtain ⟨bk, ok, ek, hbk, ck⟩ := sl_num (HSX.out _ m) (j := k) (by rw [HNL.out]; exact hkN)
                      rw [ek] at x2
                      obtain ⟨t1, ht1⟩ : ∃ t1, t0 + total (ql.take k) = t1 := ⟨_, rfl⟩
                      obtain ⟨v, hv⟩ : ∃ v, vat ql k = v := ⟨_, rfl⟩
                      have hst := total_take_succ ql k (by rw [HNL.out]; exact hkN)
                      have hle := total_take_le ql (k + 1)
                      have HT1 : Hid (t0 + total (ql.take (k + 1)) = t1 + v) := Lib.hid (by rw [hst, ← ht1, ← hv]; omega)
                      have hb : t1 + v ≤ p := by have := HT1.out; omega
                      have hw : IntKind.u64.wrap ((t1 : Int) + (v : Int)) = ((t1 + v : Nat) : Int) := by rw [IntKind.wrap_u64]; omega
                      rw [hv] at ck
                      rw [ht1]
                      clear m ek hbk hst hle ht1 hv hb
                      go_wp2_with fail
                      exact ⟨⟨k + 1, by omega, by go_num, by rw [HT1.out]; go_num, HM2.out⟩, by simp [intOf]; omega⟩
                    · obtain rfl : k = nl := by omega
                      have HT2 : Hid (totH ((shardsF s).take (i + 1)) = t0 + total (ql.take k)) := Lib.hid (by
                        rw [HST.out, List.take_of_length_le (by rw [HNL.out]; exact Nat.le_refl _)])
                      obtain ⟨t1, ht1⟩ : ∃ t1, t0 + total (ql.take k) = t1 := ⟨_, rfl⟩
                      rw [ht1] at HT2 ⊢
                      clear m ht1
                      go_wp2_with fail
                      exact ⟨⟨i + 1, by omega, by go_num, by rw [HT2.out], HM2.out⟩, by simp [intOf]; omega⟩
                · obtain rfl : i = na := by omega
                  have htt : totH ((shardsF s).take i) = p := by
                    rw [← HTS.out, List.take_of_length_le (by rw [← PA.out, List.length_map, HNA.out]; exact Nat.le_refl _)]
                  rw [htt]
                  have Hz := Lib.hid (Ha.out.nil m)
                  clear m htt Ha
                  go_wp2_with (first
                    | (go_at_call 13; refine (Hz.out.len_ HT.out).mono ?_; rintro e w7 ⟨rfl, m7⟩; rw [HN.out]; have Hy := Lib.hid (Hz.out.nil m7); clear m7 Hz))
                  go_ret
                  exact ⟨rfl, Hy.out.m⟩
      · subst hex
        have hltI : (16 : Int) < (n : Int) := by omega
        by_cases h200 : 200 < N
        · have h200I : (200 : Int) < (N : Int) := by omega
          go_wp2_with (first
            | (go_at_call 13; refine (H4.out.len_ HT.out).mono ?_; rintro e w5 ⟨rfl, m5⟩; rw [HN.out]; have H5 := Lib.hid (H4.out.nil m5); clear m5 H4))
          go_ret
          exact ⟨rfl, H5.out.m⟩
        · have h200I : (N : Int) ≤ 200 := by omega
          obtain ⟨i0, hi, hz0, hz1, hz2⟩ := info_parts infoV64
          have HMK := fun V : World => run_make (P := Try.prog) V 34 27 i0 (.int .u64 0) Try.underlying34 hi hz0 .i64 .i64 64 64 (by omega) (by omega) (by rw [hz2]; omega) (by omega)
          rw [hz1] at HMK
          simp only [show Int.toNat 64 = 64 from rfl, Nat.mul_one] at HMK
          clear hi hz0 hz1 hz2
          go_wp2_with (first
            | (go_at_call 13; refine (H4.out.len_ HT.out).mono ?_; rintro e w5 ⟨rfl, m5⟩; rw [HN.out]; have H5 := Lib.hid (H4.out.nil m5); clear m5 H4))
          have O5 := Lib.hid (own_made_row (w := w5) (n := 64) (Nat.zero_le _) (by omega))
          clear HMK h200 h200I
          go_loopw [8] (fun x wr => ∃ (p : Nat) (zs : List Nat), p ≤ N ∧ x = .int .u64 (p : Int) ∧ Mods Nil w5 wr ∧ zs.length = 64 ∧ wr.ownsRow 0 27 1 (.slice (some ⟨w5.heap.size, 0, none⟩) 64 64) 64 (nums zs) ∧ ∀ h g : Nat, h ≤ 7 → g ≤ 3 → vat zs (8 * g + h) = cntAt h g p s.L) (fun x _ => N - (intOf x).toNat)
          case atStart => exact ⟨0, List.replicate 64 0, Nat.zero_le _, rfl, (Mods.refl Nil w5).alloc _, by simp, O5.out, fun h g _ _ => by rw [vat_replicate, cntAt_zero]⟩
          case round =>
            obtain ⟨p, zs, hp, rfl, m, hzl, o, hz⟩ := hrel
            clear O5
            have HM := Lib.hid m
            have HZ := Lib.hid hz
            have HZL := Lib.hid hzl
            have HO := Lib.hid o
            have H6 := Lib.hid (H5.out.nil m)
            have hN200 : N ≤ 200 := by omega
            by_cases hpN : p < N
            · have hpI : (p : Int) < (N : Int) := by omega
              obtain ⟨hh, gg, oo, hh7, gg3, hon, hoc, hcn, hfi, hpl⟩ := dense_find H5.out.good HLOW.out (p := p) (by rw [HN.out]; exact hpN)
              rw [HN.out] at hon
              have HFI := Lib.hid (fun W W' e => @hfi W W' e)
              have HPL := Lib.hid (fun W W' e => @hpl W W' e)
              have HCN := Lib.hid hcn
              have hk : 8 * gg + hh < 64 := by omega
              have hvz : vat zs (8 * gg + hh) = oo := by rw [hz hh gg hh7 gg3, hoc]
              have HL := Lib.hid (fun V (hV : Mods Nil wr V) => own_at_lit (own_mods o hV (fun _ _ h => h)) (nums_get zs (8 * gg + hh) (by rw [hzl]; exact hk)))
              rw [hvz] at HL
              have HVZ := Lib.hid (hvz.symm.trans (hz hh gg hh7 gg3))
              have i1 : ¬ ((hh : Int) < 0) := by omega
              have i2 : (hh : Int) ≤ 7 := by omega
              have i3 : ¬ ((gg : Int) < 0) := by omega
              have i4 : (gg : Int) ≤ 3 := by omega
              have hw1 : IntKind.i64.wrap (8 * (gg : Int)) = ((8 * gg : Nat) : Int) := by rw [IntKind.wrap_i64]; omega
              have hw2 : IntKind.i64.wrap (((8 * gg : Nat) : Int) + (hh : Int)) = ((8 * gg + hh : Nat) : Int) := by rw [IntKind.wrap_i64]; omega
              have hw3 : IntKind.u64.wrap ((oo : Int) + 1) = ((oo + 1 : Nat) : Int) := by rw [IntKind.wrap_u64]; omega
              have hw4 : IntKind.u64.wrap ((p : Int) + 1) = ((p + 1 : Nat) : Int) := by rw [IntKind.wrap_u64]; omega
              have hkI : ((8 * gg + hh : Nat) : Int) < 64 := by omega
              have HP64 : Hid (p < 18446744073709551616) := Lib.hid (by omega)
              have HO64 : Hid (oo < 18446744073709551616) := Lib.hid (by omega)
              have HH64 : Hid (in64 (hh : Int)) := Lib.hid (in64_of (by omega) (by omega))
              have HH7 := Lib.hid hh7
              have HG3 := Lib.hid gg3
              clear m hz hzl o hfi hpl hcn hoc hvz hon hh7 gg3
              go_wp2_with (first
                | (go_at_call 13; refine (H6.out.len_ HT.out).mono ?_; rintro e w7 ⟨rfl, m7⟩; rw [HN.out]; have M7 := Lib.hid m7; have H7 := Lib.hid (H6.out.nil m7); clear m7)
                | (go_at_call 14; refine (H7.out.find HT.out HP64.out).mono ?_; intro e w8 h8; obtain ⟨rfl, m8⟩ := HFI.out _ _ _ h8; have M8 := Lib.hid (M7.out.trans m8); have H8 := Lib.hid (H7.out.nil m8); clear h8 m8)
                | (go_at_call 15; refine (H8.out.place HT.out _ _ HH64.out HO64.out).mono ?_; intro e w9 h9; obtain ⟨rfl, m9⟩ := HPL.out _ _ _ h9; have M9 := Lib.hid (M8.out.trans m9); obtain ⟨q9, f9⟩ := HL.out _ M9.out; clear h9 m9))
              have MV := HM.out.trans M9.out
              refine ⟨⟨p + 1, zs.set (8 * gg + hh) (oo + 1), by omega, by go_num, Mods.setCell (p := ⟨w5.heap.size, 8 * gg + hh, none⟩) MV (fun h => absurd h (Nat.lt_irrefl _)) _, by simp [HZL.out], ?_, fun h g hh' hg' => ?_⟩, by simp [intOf]; omega⟩
              · have := own_cell_set (own_mods HO.out M9.out (fun _ _ h => h)) (8 * gg + hh) (.int .u64 ((oo + 1 : Nat) : Int))
                rw [nums_set] at this
                have e : (((oo + 1 : Nat) : Int)) = (oo : Int) + 1 := by omega
                rw [e] at this
                exact this
              · rw [vat_set (by rw [HZL.out]; exact hk), HCN.out]
                have h7 := HH7.out
                have h3 := HG3.out
                by_cases hx : h = hh ∧ g = gg
                · obtain ⟨rfl, rfl⟩ := hx
                  rw [if_pos rfl, if_pos ⟨rfl, rfl⟩, HVZ.out]
                · rw [if_neg (fun h' => hx (by omega)), if_neg hx, HZ.out h g hh' hg']
                  omega
            · obtain rfl : p = N := by omega
              clear m hz hzl o HZ HZL HO
              have HMN : Hid (∀ i, totH ((shardsF s).take i) ≤ p) := Lib.hid (fun i => by
                have h1 := shards_total H5.out.good
                have h2 := totH_append ((shardsF s).take i) ((shardsF s).drop i)
                rw [List.take_append_drop, h1, HN.out] at h2
                omega)
              have hts : totH (shardsF s) = p := (shards_total H5.out.good).trans HN.out
              have HTS := Lib.hid hts
              clear hts
              go_wp2_with (first
                | (go_at_call 13; refine (H6.out.len_ HT.out).mono ?_; rintro e w7 ⟨rfl, m7⟩; rw [HN.out]; have H7 := Lib.hid (H6.out.nil m7); clear m7 H6)
                | (go_at_call 16; refine (H7.out.shards HT.out).mono ?_; rintro e wa ⟨Aa, na, ca, la, rfl, hna, oa, pa, ma⟩; have Ha := Lib.hid (H7.out.nil ma); have HNA := Lib.hid hna; have OA := Lib.hid oa; have PA := Lib.hid pa; clear ma hna oa pa H7))
              have hna8 : na ≤ 8 := by rw [← HNA.out]; exact sh_many PA.out
              go_loopw [16, 17] (fun y x wr => ∃ (i : Nat), i ≤ na ∧ x = .int .i64 (i : Int) ∧ y = .int .u64 (totH ((shardsF s).take i) : Int) ∧ Mods Nil wa wr) (fun _ x _ => na - (intOf x).toNat)
              case atStart => exact ⟨0, Nat.zero_le _, rfl, rfl, Mods.refl _ _⟩
              case round =>
                obtain ⟨i, hi, rfl, rfl, m⟩ := hrel
                have HMM := Lib.hid m
                by_cases hiN : i < na
                · have hiI : (i : Int) < (na : Int) := by omega
                  obtain ⟨q, hq⟩ : ∃ q, la[i]? = some q := ⟨_, List.getElem?_eq_getElem (by rw [HNA.out]; exact hiN)⟩
                  obtain ⟨ga, rfl, -⟩ := own_some (A := Aa) (by have := OA.out.own; rw [HNA.out] at this; exact this) (by omega)
                  have HX := Lib.hid (fun V (hV : Mods Nil wa V) => (sh_lit (OA.out.nil hV) HNA.out hq).2.2.1)
                  have HSX := Lib.hid (fun V (hV : Mods Nil wa V) => (OA.out.nil hV).sl hq)
                  have HST : Hid (totH ((shardsF s).take (i + 1)) = totH ((shardsF s).take i) + total q.lens) := Lib.hid (by
                    have hp : (shardsF s)[i]? = some q.plain := by rw [← PA.out, List.getElem?_map, hq]; rfl
                    obtain ⟨hj3, e⟩ := List.getElem?_eq_some_iff.1 hp
                    rw [List.take_succ_eq_append_getElem hj3, e, totH_append]
                    simp [totH, ShP.plain])
                  have hb4 : q.lens.length ≤ 4 := sh_len Ha.out.good PA.out (List.mem_of_getElem? hq)
                  obtain ⟨t0, ht0⟩ : ∃ x, totH ((shardsF s).take i) = x := ⟨_, rfl⟩
                  have htot : t0 + total q.lens ≤ p := by have := HMN.out (i + 1); rw [HST.out, ht0] at this; exact this
                  rw [ht0] at HST ⊢
                  generalize q.lens = ql at HX HSX HST hb4 htot
                  obtain ⟨nl, hnl⟩ : ∃ x, ql.length = x := ⟨_, rfl⟩
                  rw [hnl] at HX hb4
                  have HNL := Lib.hid hnl
                  clear m hq ht0 hnl
                  go_wp2_with fail
                  go_loopw [16, 18] (fun y x wr => ∃ (k : Nat), k ≤ nl ∧ x = .int .i64 (k : Int) ∧ y = .int .u64 ((t0 + total (ql.take k) : Nat) : Int) ∧ Mods Nil wa wr) (fun _ x _ => nl - (intOf x).toNat)
                  case atStart => exact ⟨0, Nat.zero_le _, rfl, by simp [total_nil], HMM.out⟩
                  case round =>
                    obtain ⟨k, hk, rfl, rfl, m⟩ := hrel
                    have HM2 := Lib.hid m
                    have x2 := HX.out _ m
                    by_cases hkN : k < nl
                    · have hkI : (k : Int) < (nl : Int) := by omega
                      obtain ⟨bk, ok, ek, hbk, ck⟩ := sl_num (HSX.out _ m) (j := k) (by rw [HNL.out]; exact hkN)
                      rw [ek] at x2
                      obtain ⟨t1, ht1⟩ : ∃ t1, t0 + total (ql.take k) = t1 := ⟨_, rfl⟩
                      obtain ⟨v, hv⟩ : ∃ v, vat ql k = v := ⟨_, rfl⟩
                      have hst := total_take_succ ql k (by rw [HNL.out]; exact hkN)
                      have hle := total_take_le ql (k + 1)
                      have HT1 : Hid (t0 + total (ql.take (k + 1)) = t1 + v) := Lib.hid (by rw [hst, ← ht1, ← hv]; omega)
                      have hb : t1 + v ≤ p := by have := HT1.out; omega
                      have hw : IntKind.u64.wrap ((t1 : Int) + (v : Int)) = ((t1 + v : Nat) : Int) := by rw [IntKind.wrap_u64]; omega
                      rw [hv] at ck
                      rw [ht1]
                      clear m ek hbk hst hle ht1 hv hb
                      go_wp2_with fail
                      exact ⟨⟨k + 1, by omega, by go_num, by rw [HT1.out]; go_num, HM2.out⟩, by simp [intOf]; omega⟩
                    · obtain rfl : k = nl := by omega
                      have HT2 : Hid (totH ((shardsF s).take (i + 1)) = t0 + total (ql.take k)) := Lib.hid (by
                        rw [HST.out, List.take_of_length_le (by rw [HNL.out]; exact Nat.le_refl _)])
                      obtain ⟨t1, ht1⟩ : ∃ t1, t0 + total (ql.take k) = t1 := ⟨_, rfl⟩
                      rw [ht1] at HT2 ⊢
                      clear m ht1
                      go_wp2_with fail
                      exact ⟨⟨i + 1, by omega, by go_num, by rw [HT2.out], HM2.out⟩, by simp [intOf]; omega⟩
                · obtain rfl : i = na := by omega
                  have htt : totH ((shardsF s).take i) = p := by
                    rw [← HTS.out, List.take_of_length_le (by rw [← PA.out, List.length_map, HNA.out]; exact Nat.le_refl _)]
                  rw [htt]
                  have Hz := Lib.hid (Ha.out.nil m)
                  clear m htt Ha
                  go_wp2_with (first
                    | (go_at_call 13; refine (Hz.out.len_ HT.out).mono ?_; rintro e w7 ⟨rfl, m7⟩; rw [HN.out]; have Hy := Lib.hid (Hz.out.nil m7); clear m7 Hz))
                  go_ret
                  exact ⟨rfl, Hy.out.m⟩
end Go.Proofs.Ytkodmgnagfolpaa
