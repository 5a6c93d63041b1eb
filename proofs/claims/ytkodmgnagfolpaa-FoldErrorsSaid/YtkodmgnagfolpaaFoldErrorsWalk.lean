/- The walk of notcherlaw11.FoldErrors. -/
import Derived.Test.YtkodmgnagfolpaaLaw11M

namespace Go.Proofs.Ytkodmgnagfolpaa
set_option maxRecDepth 1000000
open Go.RowKit
set_option linter.unusedVariables false
set_option linter.unusedSimpArgs false

theorem less_new : ({} : PF).less {} := ⟨⟨rfl, rfl, rfl, rfl⟩, fun _ _ => rfl⟩
theorem At.short {W0 W : World} {q : CmdP} (hq : q.good W0) (hm : Mods Nil W0 W) : Calls Try.prog 11 #[.agg (CV q.c q.A q.n q.k)] W fun e w' => e = .returned (.bool (shortB q.c)) ∧ Mods Nil W w' :=
  short11_any W q.c hq.rows (Acts.mods hq.rws hm)
section
variable {w W : World} {b1 b2 : Nat} {s t : PF} {T : Nat}
theorem two_sp1 (h : Two w W b1 b2 s t T) (hT : T ≤ 1000) : Calls Try.prog 17 #[.pointer (some ⟨b1, 0, none⟩)] W fun e W' => ∃ A c, e = .returned (.slice A s.L.length c) ∧ W'.ownsRow 0 47 5 (.slice A s.L.length c) s.L.length (rowP s.L) ∧ Mods Nil W W' :=
  (h.one.spans hT).mono fun e W' ⟨A, c, h1, h2, h3⟩ => ⟨A, c, h1, ownsRow_base_a h2 (Nat.zero_le _), h3⟩
theorem two_sp2 (h : Two w W b1 b2 s t T) (hT : T ≤ 1000) (hl : s.less t) : Calls Try.prog 17 #[.pointer (some ⟨b2, 0, none⟩)] W fun e W' => ∃ A c, e = .returned (.slice A s.L.length c) ∧ W'.ownsRow 0 47 5 (.slice A s.L.length c) s.L.length (rowP s.L) ∧ Mods Nil W W' := by
  have := h.two.spans hT
  rw [hl.same.L] at this
  exact this.mono fun e W' ⟨A, c, h1, h2, h3⟩ => ⟨A, c, h1, ownsRow_base_a h2 (Nat.zero_le _), h3⟩
theorem two_len2 (h : Two w W b1 b2 s t T) (hT : T ≤ 1000) (hl : s.less t) : Calls Try.prog 13 #[.pointer (some ⟨b2, 0, none⟩)] W fun e W' => e = .returned (.int .u64 (s.n : Int)) ∧ Mods Nil W W' := by
  have := h.two.len_ hT
  rwa [hl.same.n] at this
theorem two_low2 (h : Two w W b1 b2 s t T) (hl : s.less t) : Calls Try.prog 18 #[.pointer (some ⟨b2, 0, none⟩)] W fun e W' => e = .returned (.int .u64 (s.low : Int)) ∧ Mods Nil W W' := by
  have := h.two.low_
  rwa [hl.same.low] at this
theorem two_sh1 (h : Two w W b1 b2 s t T) (hT : T ≤ 1000) : Calls Try.prog 16 #[.pointer (some ⟨b1, 0, none⟩)] W fun e W' => ∃ A c, e = .returned (.slice A (shardsF s).length c) ∧ Mods Nil W W' :=
  (h.one.shards hT).mono fun e W' ⟨A, n, c, l, h1, h2, h3, h4, h5⟩ => ⟨A, c, by rw [h1, ← h4, List.length_map, h2], h5⟩
theorem two_sh2 (h : Two w W b1 b2 s t T) (hT : T ≤ 1000) (hl : s.less t) : Calls Try.prog 16 #[.pointer (some ⟨b2, 0, none⟩)] W fun e W' => ∃ A c, e = .returned (.slice A (shardsF s).length c) ∧ Mods Nil W W' :=
  (h.two.shards hT).mono fun e W' ⟨A, n, c, l, h1, h2, h3, h4, h5⟩ => ⟨A, c, by rw [h1, ← shardsF_alike hl.same, ← h4, List.length_map, h2], h5⟩
end
set_option maxHeartbeats 6400000 in
theorem foldErrors_walk (w : World) {A : Option Addr} {n c : Nat} {l : List CmdP} (h : Cmds w A n c l) : Calls Try.prog 5 #[.slice A n c] w fun e w' => e = .returned (.bool true) ∧ Mods Nil w w' := by
  have HC := Lib.hid h
  clear h
  go_enter Try.func5, Try.ntmps5
  go_wp2_with (first
    | (go_at_call 9; refine (awake11_any _).mono ?_; rintro e w1 ⟨rfl, m1⟩; have M1 := Lib.hid m1; clear m1)
    | (go_at_call 10; refine (new_has1 M1.out).mono ?_; rintro e w2 ⟨b1, rfl, h2⟩; have H2 := Lib.hid h2; clear h2 M1)
    | (go_at_call 10; refine (two_new H2.out).mono ?_; rintro e w3 ⟨b2, rfl, h3⟩; have H3 := Lib.hid h3; clear h3 H2))
  go_loopw [6] (fun x wr => ∃ (j : Nat) (s t : PF), j ≤ n ∧ j ≤ 24 ∧ x = .int .i64 (j : Int) ∧ Two w wr b1 b2 s t (4 * j) ∧ s.less t) (fun x _ => n - (intOf x).toNat)
  case atStart => exact ⟨0, {}, {}, Nat.zero_le _, by omega, rfl, H3.out, less_new⟩
  case round =>
    obtain ⟨j, s, t, hj, hj24, rfl, h4, hls⟩ := hrel
    have H4 := Lib.hid h4
    have HLS := Lib.hid hls
    clear H3 h4 hls
    by_cases hlt : j < n ∧ j < 24
    · obtain ⟨hlt, h24⟩ := hlt
      have hltI : (j : Int) < (n : Int) := by omega
      have h24I : (j : Int) < 24 := by omega
      obtain ⟨g, off, q, rfl, -, hgood, hz⟩ := HC.out.get hlt
      obtain ⟨z0, z1, z2, z3, z4, z5, z6⟩ := hz _ H4.out.m
      have HQ := Lib.hid hgood
      have HZ := Lib.hid hz
      obtain ⟨sb, hsb⟩ : ∃ sb, shortB q.c = sb := ⟨_, rfl⟩
      have HSH := Lib.hid (At.short hgood H4.out.m)
      rw [hsb] at HSH
      have HSB := Lib.hid hsb
      clear hgood hz hsb
      cases sb with
      | false =>
        go_wp2_with (first
          | (go_at_call 11; refine HSH.out.mono ?_; rintro e w5 ⟨rfl, m5⟩; have M5 := Lib.hid (H4.out.m.trans m5); clear m5))
        go_ret
        exact ⟨rfl, M5.out⟩
      | true =>
        have HA1 : Hid (∀ W, Two w W b1 b2 s t (4 * j) → Calls Try.prog 12 #[.pointer (some ⟨b1, 0, none⟩), .agg (CV q.c q.A q.n q.k)] W fun e W' => e = .returned (.int .i64 (applyF s q.c).1) ∧ Two w W' b1 b2 (applyF s q.c).2 t (4 * j + 2)) := Lib.hid (fun W hW => hW.apply1 (by omega) HQ.out HSB.out)
        have HA2 : Hid (∀ W, Two w W b1 b2 (applyF s q.c).2 t (4 * j + 2) → Calls Try.prog 12 #[.pointer (some ⟨b2, 0, none⟩), .agg (CV q.c q.A q.n q.k)] W fun e W' => e = .returned (.int .i64 (applyF t q.c).1) ∧ Two w W' b1 b2 (applyF s q.c).2 (applyF t q.c).2 (4 * j + 4)) := Lib.hid (fun W hW => hW.apply2 (by omega) HQ.out HSB.out)
        have HGS : Hid s.good := Lib.hid H4.out.one.good
        have HGT : Hid t.good := Lib.hid H4.out.two.good
        by_cases h0 : (applyF s q.c).1 = 0
        · obtain ⟨ht0, hl'⟩ := less_good HGS.out HGT.out HLS.out h0
          have HL' := Lib.hid hl'
          rw [h0] at HA1
          rw [ht0] at HA2
          clear h0 ht0 hl'
          go_wp2_with (first
            | (go_at_call 11; refine HSH.out.mono ?_; rintro e w5 ⟨rfl, m5⟩; have H5 := Lib.hid (H4.out.nil m5); obtain ⟨y0, y1, y2, y3, y4, y5, y6⟩ := HZ.out _ H5.out.m; clear m5 H4 z0 z1 z2 z3 z4 z5 z6)
            | (go_at_call 12; refine (HA1.out _ H5.out).mono ?_; rintro e w6 ⟨rfl, h6⟩; have H6 := Lib.hid h6; obtain ⟨x0, x1, x2, x3, x4, x5, x6⟩ := HZ.out _ h6.m; clear h6 H5 y0 y1 y2 y3 y4 y5 y6)
            | (go_at_call 12; refine (HA2.out _ H6.out).mono ?_; rintro e w7 ⟨rfl, h7⟩; have H7 := Lib.hid h7; clear h7 H6))
          exact ⟨⟨j + 1, _, _, by omega, by omega, by go_num, H7.out, HL'.out⟩, by simp [intOf]; omega⟩
        · have HL' := Lib.hid (less_bad (c := q.c) HGS.out HLS.out h0)
          obtain ⟨e1, he1⟩ : ∃ e1, (applyF s q.c).1 = e1 := ⟨_, rfl⟩
          rw [he1] at HA1 h0
          have hb : (e1 == 0) = false := by rw [beq_eq_false_iff_ne]; exact h0
          clear he1 h0
          go_wp2_with (first
            | (go_at_call 11; refine HSH.out.mono ?_; rintro e w5 ⟨rfl, m5⟩; have H5 := Lib.hid (H4.out.nil m5); obtain ⟨y0, y1, y2, y3, y4, y5, y6⟩ := HZ.out _ H5.out.m; clear m5 H4 z0 z1 z2 z3 z4 z5 z6)
            | (go_at_call 12; refine (HA1.out _ H5.out).mono ?_; rintro e w6 ⟨rfl, h6⟩; have H6 := Lib.hid h6; clear h6 H5))
          exact ⟨⟨j + 1, _, _, by omega, by omega, by go_num, H6.out.mono (by omega), HL'.out⟩, by simp [intOf]; omega⟩
    · have hT : 4 * j ≤ 1000 := by omega
      have HT := Lib.hid hT
      have HSL : Hid (s.L.length ≤ 1000000) := Lib.hid (by have := H4.out.one.len; omega)
      obtain ⟨N, hN⟩ : ∃ N, s.L.length = N := ⟨_, rfl⟩
      have HN := Lib.hid hN
      have hex : j = n ∨ (j < n ∧ j = 24) := by omega
      clear hT hN hlt
      rcases hex with hex | ⟨hlt, hex⟩
      · subst hex
        go_wp2_with (first
          | (go_at_call 17; refine (two_sp1 H4.out HT.out).mono ?_; rintro e w5 ⟨A5, c5, rfl, o5, m5⟩; rw [HN.out] at o5 ⊢; have H5 := Lib.hid (H4.out.nil m5); have O5 := Lib.hid o5; clear m5 o5 H4)
          | (go_at_call 17; refine (two_sp2 H5.out HT.out HLS.out).mono ?_; rintro e w6 ⟨A6, c6, rfl, o6, m6⟩; rw [HN.out] at o6 ⊢; have H6 := Lib.hid (H5.out.nil m6); have O6 := Lib.hid o6; have P5 := Lib.hid (own_mods O5.out m6 (fun _ _ h => h)); have K6 := Lib.hid (H5.out.m.trans m6); clear m6 o6 H5 O5)
          | (go_at_call 13; refine (H6.out.one.len_ HT.out).mono ?_; rintro e w7 ⟨rfl, m7⟩; have H7 := Lib.hid (H6.out.nil m7); have N7 := Lib.hid m7; clear m7 H6)
          | (go_at_call 13; refine (two_len2 H7.out HT.out HLS.out).mono ?_; rintro e w8 ⟨rfl, m8⟩; have H8 := Lib.hid (H7.out.nil m8); have N8 := Lib.hid (N7.out.trans m8); clear m8 H7 N7)
          | (go_at_call 18; refine (H8.out.one.low_).mono ?_; rintro e w9 ⟨rfl, m9⟩; have H9 := Lib.hid (H8.out.nil m9); have N9 := Lib.hid (N8.out.trans m9); clear m9 H8 N8)
          | (go_at_call 18; refine (two_low2 H9.out HLS.out).mono ?_; rintro e wa ⟨rfl, ma⟩; have Ha := Lib.hid (H9.out.nil ma); have Na := Lib.hid (N9.out.trans ma); clear ma H9 N9)
          | (go_at_call 16; refine (two_sh1 Ha.out HT.out).mono ?_; rintro e wb ⟨Ab, cb, rfl, mb⟩; have Hb := Lib.hid (Ha.out.nil mb); have Nb := Lib.hid (Na.out.trans mb); clear mb Ha Na)
          | (go_at_call 16; refine (two_sh2 Hb.out HT.out HLS.out).mono ?_; rintro e wc ⟨Ac, cc, rfl, mc⟩; have Hc := Lib.hid (Hb.out.nil mc); have Nc := Lib.hid (Nb.out.trans mc); clear mc Hb Nb))
        go_loopw [10] (fun x wr => ∃ (i : Nat), i ≤ N ∧ x = .int .i64 (i : Int) ∧ Mods Nil w6 wr) (fun x _ => N - (intOf x).toNat)
        case atStart => exact ⟨0, Nat.zero_le _, rfl, Nc.out⟩
        case round =>
          obtain ⟨i, hi, rfl, m⟩ := hrel
          have HM := Lib.hid m
          by_cases hiN : i < N
          · have hiI : (i : Int) < (N : Int) := by omega
            obtain ⟨g5, rfl, -⟩ := own_some P5.out (by omega)
            obtain ⟨g6, rfl, -⟩ := own_some O6.out (by omega)
            have hN6 : N ≤ 1000000 := by have := HSL.out; have := HN.out; omega
            have hi2 : i < s.L.length := by rw [HN.out]; exact hiN
            obtain ⟨p, hp⟩ : ∃ p, s.L[i] = p := ⟨_, rfl⟩
            have hx := fun V (hV : Mods Nil wr V) => span_lit (own_mods P5.out (m.trans hV) (fun _ _ h => h)) hi2
            have hy := fun V (hV : Mods Nil wr V) => span_lit (own_mods O6.out (m.trans hV) (fun _ _ h => h)) hi2
            rw [hp] at hx hy
            have x0 := fun V hV => (hx V hV).1
            have x1 := fun V hV => (hx V hV).2.1
            have x2 := fun V hV => (hx V hV).2.2.1
            have x3 := fun V hV => (hx V hV).2.2.2.1
            have x4 := fun V hV => (hx V hV).2.2.2.2
            have y0 := fun V hV => (hy V hV).1
            have y1 := fun V hV => (hy V hV).2.1
            have y2 := fun V hV => (hy V hV).2.2.1
            have y3 := fun V hV => (hy V hV).2.2.2.1
            have y4 := fun V hV => (hy V hV).2.2.2.2
            have hne := sp_neq p p
            unfold cellsP at hne
            simp only [decide_true, Bool.not_true] at hne
            clear m hi2 hp hx hy
            go_wp2_with fail
            refine gq_region (by kernel_rfl) (by kernel_rfl) ?_
            try simp only [Act.put, List.setIfInBounds_toArray, List.set_cons_zero, List.set_cons_succ]
            repeat (first
              | go_big_quiet_skip
              | (go_big_quiet_want; first
                  | (refine gq_op (v := ?_) ?_ ?_; rotate_left; (focus (intro V hV; go_simp; try with_reducible rfl)); go_big_quiet_on))
                simp only [Act.put, List.setIfInBounds_toArray, List.set_cons_zero, List.set_cons_succ])
            refine wpQuiet_nil ?_
            intro V hV
            have HV := Lib.hid (HM.out.trans hV)
            clear hV x0 x1 x2 x3 x4 y0 y1 y2 y3 y4
            go_wp2_with fail
            exact ⟨⟨i + 1, by omega, by go_num, HV.out⟩, by simp [intOf]; omega⟩
          · obtain rfl : i = N := by omega
            clear m
            go_wp2_with fail
            go_ret
            exact ⟨rfl, K6.out.trans HM.out⟩
      · subst hex
        have hltI : (24 : Int) < (n : Int) := by omega
        go_wp2_with (first
          | (go_at_call 17; refine (two_sp1 H4.out HT.out).mono ?_; rintro e w5 ⟨A5, c5, rfl, o5, m5⟩; rw [HN.out] at o5 ⊢; have H5 := Lib.hid (H4.out.nil m5); have O5 := Lib.hid o5; clear m5 o5 H4)
          | (go_at_call 17; refine (two_sp2 H5.out HT.out HLS.out).mono ?_; rintro e w6 ⟨A6, c6, rfl, o6, m6⟩; rw [HN.out] at o6 ⊢; have H6 := Lib.hid (H5.out.nil m6); have O6 := Lib.hid o6; have P5 := Lib.hid (own_mods O5.out m6 (fun _ _ h => h)); have K6 := Lib.hid (H5.out.m.trans m6); clear m6 o6 H5 O5)
          | (go_at_call 13; refine (H6.out.one.len_ HT.out).mono ?_; rintro e w7 ⟨rfl, m7⟩; have H7 := Lib.hid (H6.out.nil m7); have N7 := Lib.hid m7; clear m7 H6)
          | (go_at_call 13; refine (two_len2 H7.out HT.out HLS.out).mono ?_; rintro e w8 ⟨rfl, m8⟩; have H8 := Lib.hid (H7.out.nil m8); have N8 := Lib.hid (N7.out.trans m8); clear m8 H7 N7)
          | (go_at_call 18; refine (H8.out.one.low_).mono ?_; rintro e w9 ⟨rfl, m9⟩; have H9 := Lib.hid (H8.out.nil m9); have N9 := Lib.hid (N8.out.trans m9); clear m9 H8 N8)
          | (go_at_call 18; refine (two_low2 H9.out HLS.out).mono ?_; rintro e wa ⟨rfl, ma⟩; have Ha := Lib.hid (H9.out.nil ma); have Na := Lib.hid (N9.out.trans ma); clear ma H9 N9)
          | (go_at_call 16; refine (two_sh1 Ha.out HT.out).mono ?_; rintro e wb ⟨Ab, cb, rfl, mb⟩; have Hb := Lib.hid (Ha.out.nil mb); have Nb := Lib.hid (Na.out.trans mb); clear mb Ha Na)
          | (go_at_call 16; refine (two_sh2 Hb.out HT.out HLS.out).mono ?_; rintro e wc ⟨Ac, cc, rfl, mc⟩; have Hc := Lib.hid (Hb.out.nil mc); have Nc := Lib.hid (Nb.out.trans mc); clear mc Hb Nb))
        go_loopw [10] (fun x wr => ∃ (i : Nat), i ≤ N ∧ x = .int .i64 (i : Int) ∧ Mods Nil w6 wr) (fun x _ => N - (intOf x).toNat)
        case atStart => exact ⟨0, Nat.zero_le _, rfl, Nc.out⟩
        case round =>
          obtain ⟨i, hi, rfl, m⟩ := hrel
          have HM := Lib.hid m
          by_cases hiN : i < N
          · have hiI : (i : Int) < (N : Int) := by omega
            obtain ⟨g5, rfl, -⟩ := own_some P5.out (by omega)
            obtain ⟨g6, rfl, -⟩ := own_some O6.out (by omega)
            have hN6 : N ≤ 1000000 := by have := HSL.out; have := HN.out; omega
            have hi2 : i < s.L.length := by rw [HN.out]; exact hiN
            obtain ⟨p, hp⟩ : ∃ p, s.L[i] = p := ⟨_, rfl⟩
            have hx := fun V (hV : Mods Nil wr V) => span_lit (own_mods P5.out (m.trans hV) (fun _ _ h => h)) hi2
            have hy := fun V (hV : Mods Nil wr V) => span_lit (own_mods O6.out (m.trans hV) (fun _ _ h => h)) hi2
            rw [hp] at hx hy
            have x0 := fun V hV => (hx V hV).1
            have x1 := fun V hV => (hx V hV).2.1
            have x2 := fun V hV => (hx V hV).2.2.1
            have x3 := fun V hV => (hx V hV).2.2.2.1
            have x4 := fun V hV => (hx V hV).2.2.2.2
            have y0 := fun V hV => (hy V hV).1
            have y1 := fun V hV => (hy V hV).2.1
            have y2 := fun V hV => (hy V hV).2.2.1
            have y3 := fun V hV => (hy V hV).2.2.2.1
            have y4 := fun V hV => (hy V hV).2.2.2.2
            have hne := sp_neq p p
            unfold cellsP at hne
            simp only [decide_true, Bool.not_true] at hne
            clear m hi2 hp hx hy
            go_wp2_with fail
            refine gq_region (by kernel_rfl) (by kernel_rfl) ?_
            try simp only [Act.put, List.setIfInBounds_toArray, List.set_cons_zero, List.set_cons_succ]
            repeat (first
              | go_big_quiet_skip
              | (go_big_quiet_want; first
                  | (refine gq_op (v := ?_) ?_ ?_; rotate_left; (focus (intro V hV; go_simp; try with_reducible rfl)); go_big_quiet_on))
                simp only [Act.put, List.setIfInBounds_toArray, List.set_cons_zero, List.set_cons_succ])
            refine wpQuiet_nil ?_
            intro V hV
            have HV := Lib.hid (HM.out.trans hV)
            clear hV x0 x1 x2 x3 x4 y0 y1 y2 y3 y4
            go_wp2_with fail
            exact ⟨⟨i + 1, by omega, by go_num, HV.out⟩, by simp [intOf]; omega⟩
          · obtain rfl : i = N := by omega
            clear m
            go_wp2_with fail
            go_ret
            exact ⟨rfl, K6.out.trans HM.out⟩
end Go.Proofs.Ytkodmgnagfolpaa
