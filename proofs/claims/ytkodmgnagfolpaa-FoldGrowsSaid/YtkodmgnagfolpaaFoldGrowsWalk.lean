/- The walk of notcherlaw11.FoldGrows. -/
import Derived.Test.YtkodmgnagfolpaaLaw11M
namespace Go.Proofs.Ytkodmgnagfolpaa
set_option maxRecDepth 1000000
open Go.RowKit
set_option linter.unusedVariables false
set_option linter.unusedSimpArgs false

theorem nil_grows (s : PF) : ({} : PF).grows s := ⟨⟨s.L, rfl⟩, fun i h e => (by cases e), Nat.zero_le _⟩
set_option maxHeartbeats 6400000 in
theorem foldGrows_walk (w : World) {A : Option Addr} {n c : Nat} {l : List CmdP} (h : Cmds w A n c l) {a : Int} (ha : (Lit.int .u8 a).wf = true) : Calls Try.prog 4 #[.slice A n c, .int .u8 a] w fun e w' => e = .returned (.bool true) ∧ Mods Nil w w' := by
  have HC := Lib.hid h
  clear h
  obtain ⟨a, rfl⟩ := u8_nat10 ha
  have ha256 := a.toNat_lt
  generalize a.toNat = k at ha256 ⊢
  clear ha a
  go_enter Try.func4, Try.ntmps4
  go_wp2_with (first
    | (go_at_call 9; refine (awake11_any _).mono ?_; rintro e w1 ⟨rfl, m1⟩; have M1 := Lib.hid m1; clear m1)
    | (go_at_call 10; refine (new_has1 M1.out).mono ?_; rintro e w2 ⟨b, rfl, h2⟩; have H2 := Lib.hid h2; clear h2 M1))
  obtain ⟨kk, hkk⟩ : ∃ kk : Nat, (k : Int) % 16 = (kk : Int) := ⟨k % 16, by omega⟩
  rw [hkk]
  clear hkk ha256
  go_loopw [8, 9, 10, 11] (fun x8 x9 x10 x wr => ∃ (j : Nat) (s s0 : PF) (A8 : Option Addr) (m8 c8 : Nat) (A9 : Option Addr) (n9 c9 : Nat) (l9 : List ShP), j ≤ n ∧ j ≤ 24 ∧ x = .int .i64 (j : Int) ∧ x8 = .slice A8 m8 c8 ∧ x9 = .slice A9 n9 c9 ∧ x10 = .int .u64 (s0.low : Int) ∧ Snap w wr b s (2 * j) s0 A8 m8 c8 A9 n9 c9 l9) (fun _ _ _ x _ => n - (intOf x).toNat)
  case atStart => exact ⟨0, {}, {}, none, 0, 0, none, 0, 0, [], Nat.zero_le _, by omega, rfl, rfl, rfl, rfl, Snap.start H2.out (nil_grows _)⟩
  case round =>
    obtain ⟨j, s, s0, A8, m8, c8, A9, n9, c9, l9, hj, hj24, rfl, rfl, rfl, rfl, h4⟩ := hrel
    have H4 := Lib.hid h4
    clear H2 h4
    by_cases hlt : j < n ∧ j < 24
    · obtain ⟨hlt, h24⟩ := hlt
      have hltI : (j : Int) < (n : Int) := by omega
      have h24I : (j : Int) < 24 := by omega
      obtain ⟨g, off, q, rfl, -, hgood, hz⟩ := HC.out.get hlt
      obtain ⟨z0, z1, z2, z3, z4, z5, z6⟩ := hz _ H4.out.has.m
      have HQ := Lib.hid hgood
      have HZ := Lib.hid hz
      obtain ⟨sb, hsb⟩ : ∃ sb, shortB q.c = sb := ⟨_, rfl⟩
      have HSH := Lib.hid (short_in hgood H4.out.has.m)
      rw [hsb] at HSH
      have HSB := Lib.hid hsb
      clear hgood hz hsb
      cases sb with
      | false =>
        go_wp2_with (first
          | (go_at_call 11; refine HSH.out.mono ?_; rintro e w5 ⟨rfl, m5⟩; have M5 := Lib.hid (H4.out.has.m.trans m5); clear m5))
        go_ret
        exact ⟨rfl, M5.out⟩
      | true =>
        have HGS : Hid s.good := Lib.hid H4.out.has.good
        obtain ⟨e1, he1⟩ : ∃ e1, (applyF s q.c).1 = e1 := ⟨_, rfl⟩
        obtain ⟨s', hs'⟩ : ∃ s', (applyF s q.c).2 = s' := ⟨_, rfl⟩
        obtain ⟨N1, hN1⟩ : ∃ N1, s.n = N1 := ⟨_, rfl⟩
        obtain ⟨N2, hN2⟩ : ∃ N2, s'.n = N2 := ⟨_, rfl⟩
        have hge : N1 ≤ N2 := by rw [← hN1, ← hN2, ← hs']; exact grows_n HGS.out (apply_good HGS.out q.c) (apply_grows HGS.out q.c)
        have hgeI : (N1 : Int) ≤ (N2 : Int) := by omega
        have heq : e1 ≠ 0 → N2 = N1 := fun h => by
          rw [← hN1, ← hN2, ← hs']
          exact (apply_bad HGS.out (c := q.c) (by rw [he1]; exact h)).n
        have HE1 := Lib.hid he1
        have HS2 := Lib.hid hs'
        have HN1 := Lib.hid hN1
        have HN2 := Lib.hid hN2
        clear he1 hs' hN1 hN2 hge
        by_cases h0 : e1 = 0
        · subst h0
          clear heq
          by_cases hjk : j = kk
          · subst hjk
            go_wp2_with (first
              | (go_at_call 11; refine HSH.out.mono ?_; rintro e w5 ⟨rfl, m5⟩; have H5 := Lib.hid (H4.out.nil m5); clear m5 H4 z0 z1 z2 z3 z4 z5 z6)
              | (go_at_call 17; refine (H5.out.has.spans (by omega)).mono ?_; rintro e wa ⟨Aa, ca, rfl, oa, ma⟩; have HMa := Lib.hid ma; have HOa := Lib.hid oa; have Ha := Lib.hid (H5.out.has.nil ma); have H5 := Lib.hid H5.out.has; clear ma oa)
              | (go_at_call 16; refine (Ha.out.shards (by omega)).mono ?_; rintro e wb ⟨Ab, nb, cb, lb, rfl, hnb, ob, pb, mb⟩; have Hb := Lib.hid (Snap.take H5.out HMa.out HOa.out mb ob hnb pb); clear mb ob hnb pb HMa HOa Ha H5)
              | (go_at_call 18; refine (Hb.out.has.low_).mono ?_; rintro e wc ⟨rfl, mc⟩; have HL := Lib.hid (Hb.out.nil mc); clear mc Hb)
              | (go_at_call 13; refine (HL.out.has.len_ (by omega)).mono ?_; rintro e w6 ⟨rfl, m6⟩; rw [HN1.out]; have H6 := Lib.hid (HL.out.nil m6); obtain ⟨y0, y1, y2, y3, y4, y5, y6⟩ := HZ.out _ H6.out.has.m; clear m6 HL)
              | (go_at_call 12; refine (H6.out.apply (by omega) HQ.out HSB.out).mono ?_; rintro e w7 ⟨rfl, h7⟩; rw [HE1.out]; rw [HS2.out] at h7; have H7 := Lib.hid h7; clear h7 H6 y0 y1 y2 y3 y4 y5 y6)
              | (go_at_call 13; refine (H7.out.has.len_ (by omega)).mono ?_; rintro e w8 ⟨rfl, m8⟩; rw [HN2.out]; have H8 := Lib.hid (H7.out.nil m8); clear m8 H7))
            exact ⟨⟨j + 1, s', s, Aa, s.L.length, ca, Ab, nb, cb, lb, by omega, by omega, by go_num, rfl, rfl, rfl, H8.out⟩, by simp [intOf]; omega⟩
          · have hjkI : ((j : Int) == (kk : Int)) = false := by rw [beq_eq_false_iff_ne]; omega
            go_wp2_with (first
              | (go_at_call 11; refine HSH.out.mono ?_; rintro e w5 ⟨rfl, m5⟩; have HL := Lib.hid (H4.out.nil m5); clear m5 H4 z0 z1 z2 z3 z4 z5 z6)
              | (go_at_call 13; refine (HL.out.has.len_ (by omega)).mono ?_; rintro e w6 ⟨rfl, m6⟩; rw [HN1.out]; have H6 := Lib.hid (HL.out.nil m6); obtain ⟨y0, y1, y2, y3, y4, y5, y6⟩ := HZ.out _ H6.out.has.m; clear m6 HL)
              | (go_at_call 12; refine (H6.out.apply (by omega) HQ.out HSB.out).mono ?_; rintro e w7 ⟨rfl, h7⟩; rw [HE1.out]; rw [HS2.out] at h7; have H7 := Lib.hid h7; clear h7 H6 y0 y1 y2 y3 y4 y5 y6)
              | (go_at_call 13; refine (H7.out.has.len_ (by omega)).mono ?_; rintro e w8 ⟨rfl, m8⟩; rw [HN2.out]; have H8 := Lib.hid (H7.out.nil m8); clear m8 H7))
            exact ⟨⟨j + 1, s', s0, A8, m8, c8, A9, n9, c9, l9, by omega, by omega, by go_num, rfl, rfl, rfl, H8.out⟩, by simp [intOf]; omega⟩
        · have hb : (e1 != 0) = true := by simp [h0]
          obtain rfl := heq h0
          clear h0 hgeI
          by_cases hjk : j = kk
          · subst hjk
            go_wp2_with (first
              | (go_at_call 11; refine HSH.out.mono ?_; rintro e w5 ⟨rfl, m5⟩; have H5 := Lib.hid (H4.out.nil m5); clear m5 H4 z0 z1 z2 z3 z4 z5 z6)
              | (go_at_call 17; refine (H5.out.has.spans (by omega)).mono ?_; rintro e wa ⟨Aa, ca, rfl, oa, ma⟩; have HMa := Lib.hid ma; have HOa := Lib.hid oa; have Ha := Lib.hid (H5.out.has.nil ma); have H5 := Lib.hid H5.out.has; clear ma oa)
              | (go_at_call 16; refine (Ha.out.shards (by omega)).mono ?_; rintro e wb ⟨Ab, nb, cb, lb, rfl, hnb, ob, pb, mb⟩; have Hb := Lib.hid (Snap.take H5.out HMa.out HOa.out mb ob hnb pb); clear mb ob hnb pb HMa HOa Ha H5)
              | (go_at_call 18; refine (Hb.out.has.low_).mono ?_; rintro e wc ⟨rfl, mc⟩; have HL := Lib.hid (Hb.out.nil mc); clear mc Hb)
              | (go_at_call 13; refine (HL.out.has.len_ (by omega)).mono ?_; rintro e w6 ⟨rfl, m6⟩; rw [HN1.out]; have H6 := Lib.hid (HL.out.nil m6); obtain ⟨y0, y1, y2, y3, y4, y5, y6⟩ := HZ.out _ H6.out.has.m; clear m6 HL)
              | (go_at_call 12; refine (H6.out.apply (by omega) HQ.out HSB.out).mono ?_; rintro e w7 ⟨rfl, h7⟩; rw [HE1.out]; rw [HS2.out] at h7; have H7 := Lib.hid h7; clear h7 H6 y0 y1 y2 y3 y4 y5 y6)
              | (go_at_call 13; refine (H7.out.has.len_ (by omega)).mono ?_; rintro e w8 ⟨rfl, m8⟩; rw [HN2.out]; have H8 := Lib.hid (H7.out.nil m8); clear m8 H7)
              | (go_at_call 13; refine (H8.out.has.len_ (by omega)).mono ?_; rintro e w9 ⟨rfl, m9⟩; rw [HN2.out]; have H9 := Lib.hid (H8.out.nil m9); clear m9 H8))
            exact ⟨⟨j + 1, s', s, Aa, s.L.length, ca, Ab, nb, cb, lb, by omega, by omega, by go_num, rfl, rfl, rfl, H9.out⟩, by simp [intOf]; omega⟩
          · have hjkI : ((j : Int) == (kk : Int)) = false := by rw [beq_eq_false_iff_ne]; omega
            go_wp2_with (first
              | (go_at_call 11; refine HSH.out.mono ?_; rintro e w5 ⟨rfl, m5⟩; have HL := Lib.hid (H4.out.nil m5); clear m5 H4 z0 z1 z2 z3 z4 z5 z6)
              | (go_at_call 13; refine (HL.out.has.len_ (by omega)).mono ?_; rintro e w6 ⟨rfl, m6⟩; rw [HN1.out]; have H6 := Lib.hid (HL.out.nil m6); obtain ⟨y0, y1, y2, y3, y4, y5, y6⟩ := HZ.out _ H6.out.has.m; clear m6 HL)
              | (go_at_call 12; refine (H6.out.apply (by omega) HQ.out HSB.out).mono ?_; rintro e w7 ⟨rfl, h7⟩; rw [HE1.out]; rw [HS2.out] at h7; have H7 := Lib.hid h7; clear h7 H6 y0 y1 y2 y3 y4 y5 y6)
              | (go_at_call 13; refine (H7.out.has.len_ (by omega)).mono ?_; rintro e w8 ⟨rfl, m8⟩; rw [HN2.out]; have H8 := Lib.hid (H7.out.nil m8); clear m8 H7)
              | (go_at_call 13; refine (H8.out.has.len_ (by omega)).mono ?_; rintro e w9 ⟨rfl, m9⟩; rw [HN2.out]; have H9 := Lib.hid (H8.out.nil m9); clear m9 H8))
            exact ⟨⟨j + 1, s', s0, A8, m8, c8, A9, n9, c9, l9, by omega, by omega, by go_num, rfl, rfl, rfl, H9.out⟩, by simp [intOf]; omega⟩
    · have HT : Hid (2 * j ≤ 1000) := Lib.hid (by omega)
      obtain ⟨M, hM⟩ : ∃ M, s.L.length = M := ⟨_, rfl⟩
      have hM6 : M ≤ 1000000 := by have := H4.out.has.len; omega
      have hmI : (m8 : Int) ≤ (M : Int) := by have := H4.out.more; omega
      have hmN : m8 ≤ M := by omega
      have HM := Lib.hid hM
      obtain ⟨lo, hlo⟩ : ∃ lo, s.low = lo := ⟨_, rfl⟩
      obtain ⟨lo0, hlo0⟩ : ∃ lo, s0.low = lo := ⟨_, rfl⟩
      obtain ⟨N, hN⟩ : ∃ N, s.n = N := ⟨_, rfl⟩
      have hloI : (lo0 : Int) ≤ (lo : Int) := by have := H4.out.low; omega
      have hloN : (lo : Int) ≤ (N : Int) := by have := H4.out.has.good.low; omega
      have HLO := Lib.hid hlo
      have HNN := Lib.hid hN
      rw [hlo0]
      have hex : j = n ∨ (j < n ∧ j = 24) := by omega
      clear hlt hM hlo hlo0 hN
      rcases hex with hex | ⟨hlt, hex⟩
      · subst hex
        go_wp2_with (first
          | (go_at_call 17; refine (H4.out.has.spans HT.out).mono ?_; rintro e w5 ⟨A5, c5, rfl, o5, m5⟩; rw [HM.out] at o5 ⊢; have H5 := Lib.hid (H4.out.nil m5); have O5 := Lib.hid (ownsRow_base_a o5 (Nat.zero_le _)); clear m5 o5 H4)
          | (go_at_call 18; refine (H5.out.has.low_).mono ?_; rintro e w6 ⟨rfl, m6⟩; rw [HLO.out]; have H6 := Lib.hid (H5.out.nil m6); have O6 := Lib.hid (own_mods O5.out m6 (fun _ _ h => h)); clear m6 H5 O5)
          | (go_at_call 18; refine (H6.out.has.low_).mono ?_; rintro e w7 ⟨rfl, m7⟩; rw [HLO.out]; have H7 := Lib.hid (H6.out.nil m7); have O7 := Lib.hid (own_mods O6.out m7 (fun _ _ h => h)); clear m7 H6 O6)
          | (go_at_call 13; refine (H7.out.has.len_ HT.out).mono ?_; rintro e w8 ⟨rfl, m8'⟩; rw [HNN.out]; have H8 := Lib.hid (H7.out.nil m8'); have O8 := Lib.hid (own_mods O7.out m8' (fun _ _ h => h)); clear m8' H7 O7))
        clear hmI hloI hloN
        go_loopw [16] (fun x wr => ∃ (i : Nat), i ≤ m8 ∧ x = .int .i64 (i : Int) ∧ Mods Nil w8 wr) (fun x _ => m8 - (intOf x).toNat)
        case atStart => exact ⟨0, Nat.zero_le _, rfl, Mods.refl _ _⟩
        case round =>
          obtain ⟨i, hi, rfl, m⟩ := hrel
          have HMM := Lib.hid m
          by_cases hiN : i < m8
          · have hiI : (i : Int) < (m8 : Int) := by omega
            have hiM : (i : Int) < (M : Int) := by omega
            obtain ⟨g5, rfl, -⟩ := own_some O8.out (by omega)
            obtain ⟨g8, rfl, -⟩ := own_some H8.out.sp (by omega)
            have hi2 : i < s.L.length := by rw [HM.out]; omega
            have hi3 : i < s0.L.length := by rw [H8.out.len8]; omega
            obtain ⟨p, hp⟩ : ∃ p, s.L[i] = p := ⟨_, rfl⟩
            have hp0 : s0.L[i] = p := by rw [← H8.out.same hi2 hi3]; exact hp
            have hx := fun V (hV : Mods Nil wr V) => span_lit (own_mods O8.out (m.trans hV) (fun _ _ h => h)) hi2
            have hy := fun V (hV : Mods Nil wr V) => span_lit (own_mods H8.out.sp (m.trans hV) (fun _ _ h => h)) hi3
            rw [hp] at hx
            rw [hp0] at hy
            have x0 := fun V hV => (hx V hV).1
            have x1 := fun V hV => (hx V hV).2.1
            have x2 := fun V hV => (hx V hV).2.2.1
            have x3 := fun V hV => (hx V hV).2.2.2.1
            have x4 := fun V hV => (hx V hV).2.2.2.2
            have y0 := fun V hV => (hy V hV).1
            have y1 := fun V hV => (hy V hV).2.1
            have y2 := fun V hV => (hy V hV).2.2.1
            have y3 := fun V hV => (hy V hV).2.2.2.1
            have y4 := fun V hV => (hy V hV).2.2.2.2
            have hne := sp_neq p p
            unfold cellsP at hne
            simp only [decide_true, Bool.not_true] at hne
            clear m hi2 hi3 hp hp0 hx hy
            go_wp2_with fail
            refine gq_region (by kernel_rfl) (by kernel_rfl) ?_
            try simp only [Act.put, List.setIfInBounds_toArray, List.set_cons_zero, List.set_cons_succ]
            repeat (first
              | go_big_quiet_skip
              | (go_big_quiet_want; first
                  | (refine gq_op (v := ?_) ?_ ?_; rotate_left; (focus (intro V hV; go_simp; try with_reducible rfl)); go_big_quiet_on))
                simp only [Act.put, List.setIfInBounds_toArray, List.set_cons_zero, List.set_cons_succ])
            refine wpQuiet_nil ?_
            intro V hV
            have HV := Lib.hid (HMM.out.trans hV)
            clear hV x0 x1 x2 x3 x4 y0 y1 y2 y3 y4
            go_wp2_with fail
            exact ⟨⟨i + 1, by omega, by go_num, HV.out⟩, by simp [intOf]; omega⟩
          · obtain rfl : i = m8 := by omega
            have H9 := Lib.hid (H8.out.nil m)
            clear m HMM H8 O8
            go_wp2_with (first
              | (go_at_call 16; refine (H9.out.has.shards HT.out).mono ?_; rintro e wa ⟨Aa, na, ca, la, rfl, hna, oa, pa, ma⟩; have Ha := Lib.hid (H9.out.nil ma); have HNA := Lib.hid hna; have OA := Lib.hid oa; have PA := Lib.hid pa; clear ma hna oa pa H9))
            have hn98 : n9 ≤ 8 := by rw [← Ha.out.len9]; exact sh_many Ha.out.pl
            have hna8 : na ≤ 8 := by rw [← HNA.out]; exact sh_many PA.out
            go_loopw [18] (fun x wr => ∃ (i : Nat), i ≤ n9 ∧ x = .int .i64 (i : Int) ∧ Mods Nil wa wr) (fun x _ => n9 - (intOf x).toNat)
            case atStart => exact ⟨0, Nat.zero_le _, rfl, Mods.refl _ _⟩
            case round =>
              obtain ⟨i, hi, rfl, m⟩ := hrel
              have HMM := Lib.hid m
              by_cases hiN : i < n9
              · have hiI : (i : Int) < (n9 : Int) := by omega
                obtain ⟨q, hq⟩ : ∃ q, l9[i]? = some q := ⟨_, List.getElem?_eq_getElem (by rw [Ha.out.len9]; exact hiN)⟩
                have HQ := Lib.hid hq
                have HQM := Lib.hid (List.mem_of_getElem? hq)
                obtain ⟨g9, rfl, -⟩ := own_some (A := A9) (by have := Ha.out.sh.own; rw [Ha.out.len9] at this; exact this) (by omega)
                clear m hq
                go_wp2_with fail
                go_loopw [19, 20] (fun f x wr => ∃ (j2 : Nat), j2 ≤ na ∧ x = .int .i64 (j2 : Int) ∧ f = .bool (foundB q.id (la.take j2)) ∧ Mods Nil wa wr) (fun _ x _ => na - (intOf x).toNat)
                case atStart => exact ⟨0, Nat.zero_le _, rfl, rfl, HMM.out⟩
                case round =>
                  obtain ⟨j2, hj2, rfl, rfl, m⟩ := hrel
                  have HM2 := Lib.hid m
                  by_cases hjN : j2 < na
                  · have hjI : (j2 : Int) < (na : Int) := by omega
                    obtain ⟨r, hr⟩ : ∃ r, la[j2]? = some r := ⟨_, List.getElem?_eq_getElem (by rw [HNA.out]; exact hjN)⟩
                    have HRM := Lib.hid (List.mem_of_getElem? hr)
                    obtain ⟨ga, rfl, -⟩ := own_some (A := Aa) (by have := OA.out.own; rw [HNA.out] at this; exact this) (by omega)
                    have hx := fun V (hV : Mods Nil wr V) => sh_lit (OA.out.nil (m.trans hV)) HNA.out hr
                    have hy := fun V (hV : Mods Nil wr V) => sh_lit (Ha.out.sh.nil (m.trans hV)) Ha.out.len9 HQ.out
                    have HSX := Lib.hid (fun V (hV : Mods Nil wr V) => (OA.out.nil (m.trans hV)).sl hr)
                    have HSY := Lib.hid (fun V (hV : Mods Nil wr V) => (Ha.out.sh.nil (m.trans hV)).sl HQ.out)
                    have x0 := fun V hV => (hx V hV).1
                    have x1 := fun V hV => (hx V hV).2.1
                    have x2 := fun V hV => (hx V hV).2.2.1
                    have x3 := fun V hV => (hx V hV).2.2.2
                    have y0 := fun V hV => (hy V hV).1
                    have y1 := fun V hV => (hy V hV).2.1
                    have y2 := fun V hV => (hy V hV).2.2.1
                    have y3 := fun V hV => (hy V hV).2.2.2
                    have HTK : Hid (la.take (j2 + 1) = la.take j2 ++ [r]) := Lib.hid (by
                      obtain ⟨hj3, e⟩ := List.getElem?_eq_some_iff.1 hr
                      rw [List.take_succ_eq_append_getElem hj3, e])
                    obtain ⟨fb, hfb⟩ : ∃ fb, foundB q.id (la.take j2) = fb := ⟨_, rfl⟩
                    have HFB := Lib.hid hfb
                    rw [hfb]
                    obtain ⟨id1, hid1⟩ : ∃ x, r.id = x := ⟨_, rfl⟩
                    obtain ⟨id2, hid2⟩ : ∃ x, q.id = x := ⟨_, rfl⟩
                    have HI1 := Lib.hid hid1
                    have HI2 := Lib.hid hid2
                    rw [hid1] at x0
                    rw [hid2] at y0
                    clear m hx hy hr hfb
                    by_cases hid : id1 = id2
                    · have hpr := Ha.out.pair PA.out HQM.out HRM.out (by rw [hid1, hid2]; exact hid)
                      obtain ⟨hpr1, hpr2, hpr3⟩ := hpr
                      have HLE := Lib.hid hpr2
                      have HB4 : Hid (r.lens.length ≤ 1000000) := Lib.hid (by have := sh_len Ha.out.has.good PA.out HRM.out; omega)
                      have HB5 : Hid (q.lens.length ≤ 1000000) := Lib.hid (by have := sh_len Ha.out.good0 Ha.out.pl HQM.out; omega)
                      subst hid
                      have hfn : foundB q.id (la.take (j2 + 1)) = true := by
                        rw [HTK.out, foundB_snoc, HI1.out, HI2.out]
                        simp
                      have HFN := Lib.hid hfn
                      rw [hpr1] at x1
                      obtain ⟨sg, hsg⟩ : ∃ x, q.segs = x := ⟨_, rfl⟩
                      obtain ⟨fr, hfr⟩ : ∃ x, r.fin = x := ⟨_, rfl⟩
                      obtain ⟨fq, hfq⟩ : ∃ x, q.fin = x := ⟨_, rfl⟩
                      obtain ⟨sm, hsm⟩ : ∃ x, decide (r.lens = q.lens) = x := ⟨_, rfl⟩
                      rw [hsg] at x1 y1
                      rw [hfr] at x3
                      rw [hfq] at y3
                      have HSM := Lib.hid hsm
                      have hall : fq = true → fr = true ∧ sm = true := fun h => by
                        obtain ⟨e1, e2⟩ := hpr3 (by rw [hfq]; exact h)
                        exact ⟨by rw [← hfr]; exact e2, by rw [← hsm]; simp [e1]⟩
                      have HALL := Lib.hid hall
                      clear hpr1 hpr2 hpr3 hfn hid1 hid2 hsg hfr hfq hsm hall
                      go_wp2_with fail
                      refine gq_region (by kernel_rfl) (by kernel_rfl) ?_
                      try simp only [Act.put, List.setIfInBounds_toArray, List.set_cons_zero, List.set_cons_succ]
                      repeat (first
                        | go_big_quiet_skip
                        | (go_big_quiet_want; first
                            | (refine gq_op (v := ?_) ?_ ?_; rotate_left; (focus (intro V hV; go_simp; try with_reducible rfl)); go_big_quiet_on))
                          simp only [Act.put, List.setIfInBounds_toArray, List.set_cons_zero, List.set_cons_succ])
                      refine wpQuiet_nil ?_
                      intro V hV
                      have HV := Lib.hid hV
                      clear hV
                      go_wp2_with fail
                      refine hw_region (S := fun W => Mods Nil wr W) 12 (by kernel_rfl) rfl ?_
                      refine hw_reads 0 10 2 (by kernel_rfl) (fun _ _ _ _ _ h => h) (HV.out.drew) ?_
                      simp only [List.drop_zero, List.take_succ_cons, List.take_zero]
                      repeat (refine hw_op (by rfl) (v := ?_) ?_ ?_; rotate_left; (focus (intro V hV; go_simp; try with_reducible rfl)); simp only [Act.put, List.setIfInBounds_toArray, List.set_cons_zero, List.set_cons_succ])
                      refine hw_nil ?_
                      refine hw_call 10 1 rfl (by kernel_rfl) (by rfl) 19 #[.slice r.A r.lens.length r.c, .slice q.A q.lens.length q.c] (by go_simp) ((r9same_any _ rfl HB4.out (HSX.out _ HV.out.drew) rfl (HSY.out _ HV.out.drew)).mono ?_)
                      rintro e w7 ⟨rfl, m7⟩
                      rw [HSM.out]
                      have H7 := Lib.hid (HV.out.drew.trans m7)
                      refine ⟨_, rfl, H7.out, ?_⟩
                      simp only [List.getElem_toArray, List.getElem_cons_succ, List.getElem_cons_zero, Act.put, List.setIfInBounds_toArray, List.set_cons_zero, List.set_cons_succ]
                      refine hw_one 11 0 rfl (by kernel_rfl) (by rfl) (v := .bool sm) (w' := w7) ?_ H7.out ?_
                      · go_simp
                      simp only [List.getElem_toArray, List.getElem_cons_succ, List.getElem_cons_zero, Act.put, List.setIfInBounds_toArray, List.set_cons_zero, List.set_cons_succ]
                      refine hw_done (by kernel_rfl) ?_
                      clear m7
                      go_wp2_with fail
                      refine hw_region (S := fun W => Mods Nil wr W) 12 (by kernel_rfl) rfl ?_
                      refine hw_reads 0 10 2 (by kernel_rfl) (fun _ _ _ _ _ h => h) (H7.out.drew) ?_
                      simp only [List.drop_zero, List.take_succ_cons, List.take_zero]
                      repeat (refine hw_op (by rfl) (v := ?_) ?_ ?_; rotate_left; (focus (intro V hV; go_simp; try with_reducible rfl)); simp only [Act.put, List.setIfInBounds_toArray, List.set_cons_zero, List.set_cons_succ])
                      refine hw_nil ?_
                      refine hw_call 10 1 rfl (by kernel_rfl) (by rfl) 20 #[.slice q.A q.lens.length q.c, .slice r.A r.lens.length r.c] (by go_simp) ((r9le_any _ rfl HB5.out (HSY.out _ H7.out.drew) rfl (HSX.out _ H7.out.drew)).mono ?_)
                      rintro e w8b ⟨rfl, m8b⟩
                      rw [HLE.out]
                      have H8b := Lib.hid (H7.out.drew.trans m8b)
                      refine ⟨_, rfl, H8b.out, ?_⟩
                      simp only [List.getElem_toArray, List.getElem_cons_succ, List.getElem_cons_zero, Act.put, List.setIfInBounds_toArray, List.set_cons_zero, List.set_cons_succ]
                      refine hw_one 11 0 rfl (by kernel_rfl) (by rfl) (v := .bool true) (w' := w8b) ?_ H8b.out ?_
                      · go_simp
                      simp only [List.getElem_toArray, List.getElem_cons_succ, List.getElem_cons_zero, Act.put, List.setIfInBounds_toArray, List.set_cons_zero, List.set_cons_succ]
                      refine hw_done (by kernel_rfl) ?_
                      clear m8b
                      replace x1 := fun V (hV : Mods Nil w8b V) => x1 V (H8b.out.trans hV)
                      replace y1 := fun V (hV : Mods Nil w8b V) => y1 V (H8b.out.trans hV)
                      replace x3 := fun V (hV : Mods Nil w8b V) => x3 V (H8b.out.trans hV)
                      replace y3 := fun V (hV : Mods Nil w8b V) => y3 V (H8b.out.trans hV)
                      clear x0 x2 y0 y2
                      cases fq with
                      | false =>
                        go_wp2_with fail
                        refine gq_region (by kernel_rfl) (by kernel_rfl) ?_
                        try simp only [Act.put, List.setIfInBounds_toArray, List.set_cons_zero, List.set_cons_succ]
                        repeat (first
                          | go_big_quiet_skip
                          | (go_big_quiet_want; first
                              | (refine gq_op (v := ?_) ?_ ?_; rotate_left; (focus (intro V2 hV2; go_simp; try with_reducible rfl)); go_big_quiet_on))
                            simp only [Act.put, List.setIfInBounds_toArray, List.set_cons_zero, List.set_cons_succ])
                        refine wpQuiet_nil ?_
                        intro V2 hV2
                        have HV2 := Lib.hid (HM2.out.trans (H8b.out.trans hV2))
                        clear hV2 x1 x3 y1 y3
                        go_wp2_with fail
                        exact ⟨⟨j2 + 1, by omega, by go_num, by rw [HFN.out], HV2.out⟩, by simp [intOf]; omega⟩
                      | true =>
                        obtain ⟨rfl, rfl⟩ := HALL.out rfl
                        go_wp2_with fail
                        refine gq_region (by kernel_rfl) (by kernel_rfl) ?_
                        try simp only [Act.put, List.setIfInBounds_toArray, List.set_cons_zero, List.set_cons_succ]
                        repeat (first
                          | go_big_quiet_skip
                          | (go_big_quiet_want; first
                              | (refine gq_op (v := ?_) ?_ ?_; rotate_left; (focus (intro V2 hV2; go_simp; try with_reducible rfl)); go_big_quiet_on))
                            simp only [Act.put, List.setIfInBounds_toArray, List.set_cons_zero, List.set_cons_succ])
                        refine wpQuiet_nil ?_
                        intro V2 hV2
                        have HV2 := Lib.hid (HM2.out.trans (H8b.out.trans hV2))
                        clear hV2 x1 x3 y1 y3
                        go_wp2_with fail
                        exact ⟨⟨j2 + 1, by omega, by go_num, by rw [HFN.out], HV2.out⟩, by simp [intOf]; omega⟩
                    · have hne : (id1 != id2) = true := by simp [hid]
                      have hfn : foundB q.id (la.take (j2 + 1)) = fb := by
                        rw [HTK.out, foundB_snoc, HFB.out, HI1.out, HI2.out]
                        simp [hid]
                      have HFN := Lib.hid hfn
                      clear hid hfn hid1 hid2
                      go_wp2_with fail
                      refine gq_region (by kernel_rfl) (by kernel_rfl) ?_
                      try simp only [Act.put, List.setIfInBounds_toArray, List.set_cons_zero, List.set_cons_succ]
                      repeat (first
                        | go_big_quiet_skip
                        | (go_big_quiet_want; first
                            | (refine gq_op (v := ?_) ?_ ?_; rotate_left; (focus (intro V hV; go_simp; try with_reducible rfl)); go_big_quiet_on))
                          simp only [Act.put, List.setIfInBounds_toArray, List.set_cons_zero, List.set_cons_succ])
                      refine wpQuiet_nil ?_
                      intro V hV
                      have HV := Lib.hid (HM2.out.trans hV)
                      clear hV x0 x1 x2 x3 y0 y1 y2 y3
                      go_wp2_with fail
                      exact ⟨⟨j2 + 1, by omega, by go_num, by rw [HFN.out], HV.out⟩, by simp [intOf]; omega⟩
                  · obtain rfl : j2 = na := by omega
                    have hfn : foundB q.id (la.take j2) = true := by
                      rw [List.take_of_length_le (by rw [HNA.out]; exact Nat.le_refl _)]
                      exact Ha.out.found PA.out HQM.out
                    rw [hfn]
                    clear m hfn
                    go_wp2_with fail
                    exact ⟨⟨i + 1, by omega, by go_num, HM2.out⟩, by simp [intOf]; omega⟩
              · obtain rfl : i = n9 := by omega
                clear m
                go_wp2_with fail
                go_ret
                exact ⟨rfl, Ha.out.has.m.trans HMM.out⟩
      · subst hex
        have hltI : (24 : Int) < (n : Int) := by omega
        go_wp2_with (first
          | (go_at_call 17; refine (H4.out.has.spans HT.out).mono ?_; rintro e w5 ⟨A5, c5, rfl, o5, m5⟩; rw [HM.out] at o5 ⊢; have H5 := Lib.hid (H4.out.nil m5); have O5 := Lib.hid (ownsRow_base_a o5 (Nat.zero_le _)); clear m5 o5 H4)
          | (go_at_call 18; refine (H5.out.has.low_).mono ?_; rintro e w6 ⟨rfl, m6⟩; rw [HLO.out]; have H6 := Lib.hid (H5.out.nil m6); have O6 := Lib.hid (own_mods O5.out m6 (fun _ _ h => h)); clear m6 H5 O5)
          | (go_at_call 18; refine (H6.out.has.low_).mono ?_; rintro e w7 ⟨rfl, m7⟩; rw [HLO.out]; have H7 := Lib.hid (H6.out.nil m7); have O7 := Lib.hid (own_mods O6.out m7 (fun _ _ h => h)); clear m7 H6 O6)
          | (go_at_call 13; refine (H7.out.has.len_ HT.out).mono ?_; rintro e w8 ⟨rfl, m8'⟩; rw [HNN.out]; have H8 := Lib.hid (H7.out.nil m8'); have O8 := Lib.hid (own_mods O7.out m8' (fun _ _ h => h)); clear m8' H7 O7))
        clear hmI hloI hloN
        go_loopw [16] (fun x wr => ∃ (i : Nat), i ≤ m8 ∧ x = .int .i64 (i : Int) ∧ Mods Nil w8 wr) (fun x _ => m8 - (intOf x).toNat)
        case atStart => exact ⟨0, Nat.zero_le _, rfl, Mods.refl _ _⟩
        case round =>
          obtain ⟨i, hi, rfl, m⟩ := hrel
          have HMM := Lib.hid m
          by_cases hiN : i < m8
          · have hiI : (i : Int) < (m8 : Int) := by omega
            have hiM : (i : Int) < (M : Int) := by omega
            obtain ⟨g5, rfl, -⟩ := own_some O8.out (by omega)
            obtain ⟨g8, rfl, -⟩ := own_some H8.out.sp (by omega)
            have hi2 : i < s.L.length := by rw [HM.out]; omega
            have hi3 : i < s0.L.length := by rw [H8.out.len8]; omega
            obtain ⟨p, hp⟩ : ∃ p, s.L[i] = p := ⟨_, rfl⟩
            have hp0 : s0.L[i] = p := by rw [← H8.out.same hi2 hi3]; exact hp
            have hx := fun V (hV : Mods Nil wr V) => span_lit (own_mods O8.out (m.trans hV) (fun _ _ h => h)) hi2
            have hy := fun V (hV : Mods Nil wr V) => span_lit (own_mods H8.out.sp (m.trans hV) (fun _ _ h => h)) hi3
            rw [hp] at hx
            rw [hp0] at hy
            have x0 := fun V hV => (hx V hV).1
            have x1 := fun V hV => (hx V hV).2.1
            have x2 := fun V hV => (hx V hV).2.2.1
            have x3 := fun V hV => (hx V hV).2.2.2.1
            have x4 := fun V hV => (hx V hV).2.2.2.2
            have y0 := fun V hV => (hy V hV).1
            have y1 := fun V hV => (hy V hV).2.1
            have y2 := fun V hV => (hy V hV).2.2.1
            have y3 := fun V hV => (hy V hV).2.2.2.1
            have y4 := fun V hV => (hy V hV).2.2.2.2
            have hne := sp_neq p p
            unfold cellsP at hne
            simp only [decide_true, Bool.not_true] at hne
            clear m hi2 hi3 hp hp0 hx hy
            go_wp2_with fail
            refine gq_region (by kernel_rfl) (by kernel_rfl) ?_
            try simp only [Act.put, List.setIfInBounds_toArray, List.set_cons_zero, List.set_cons_succ]
            repeat (first
              | go_big_quiet_skip
              | (go_big_quiet_want; first
                  | (refine gq_op (v := ?_) ?_ ?_; rotate_left; (focus (intro V hV; go_simp; try with_reducible rfl)); go_big_quiet_on))
                simp only [Act.put, List.setIfInBounds_toArray, List.set_cons_zero, List.set_cons_succ])
            refine wpQuiet_nil ?_
            intro V hV
            have HV := Lib.hid (HMM.out.trans hV)
            clear hV x0 x1 x2 x3 x4 y0 y1 y2 y3 y4
            go_wp2_with fail
            exact ⟨⟨i + 1, by omega, by go_num, HV.out⟩, by simp [intOf]; omega⟩
          · obtain rfl : i = m8 := by omega
            have H9 := Lib.hid (H8.out.nil m)
            clear m HMM H8 O8
            go_wp2_with (first
              | (go_at_call 16; refine (H9.out.has.shards HT.out).mono ?_; rintro e wa ⟨Aa, na, ca, la, rfl, hna, oa, pa, ma⟩; have Ha := Lib.hid (H9.out.nil ma); have HNA := Lib.hid hna; have OA := Lib.hid oa; have PA := Lib.hid pa; clear ma hna oa pa H9))
            have hn98 : n9 ≤ 8 := by rw [← Ha.out.len9]; exact sh_many Ha.out.pl
            have hna8 : na ≤ 8 := by rw [← HNA.out]; exact sh_many PA.out
            go_loopw [18] (fun x wr => ∃ (i : Nat), i ≤ n9 ∧ x = .int .i64 (i : Int) ∧ Mods Nil wa wr) (fun x _ => n9 - (intOf x).toNat)
            case atStart => exact ⟨0, Nat.zero_le _, rfl, Mods.refl _ _⟩
            case round =>
              obtain ⟨i, hi, rfl, m⟩ := hrel
              have HMM := Lib.hid m
              by_cases hiN : i < n9
              · have hiI : (i : Int) < (n9 : Int) := by omega
                obtain ⟨q, hq⟩ : ∃ q, l9[i]? = some q := ⟨_, List.getElem?_eq_getElem (by rw [Ha.out.len9]; exact hiN)⟩
                have HQ := Lib.hid hq
                have HQM := Lib.hid (List.mem_of_getElem? hq)
                obtain ⟨g9, rfl, -⟩ := own_some (A := A9) (by have := Ha.out.sh.own; rw [Ha.out.len9] at this; exact this) (by omega)
                clear m hq
                go_wp2_with fail
                go_loopw [19, 20] (fun f x wr => ∃ (j2 : Nat), j2 ≤ na ∧ x = .int .i64 (j2 : Int) ∧ f = .bool (foundB q.id (la.take j2)) ∧ Mods Nil wa wr) (fun _ x _ => na - (intOf x).toNat)
                case atStart => exact ⟨0, Nat.zero_le _, rfl, rfl, HMM.out⟩
                case round =>
                  obtain ⟨j2, hj2, rfl, rfl, m⟩ := hrel
                  have HM2 := Lib.hid m
                  by_cases hjN : j2 < na
                  · have hjI : (j2 : Int) < (na : Int) := by omega
                    obtain ⟨r, hr⟩ : ∃ r, la[j2]? = some r := ⟨_, List.getElem?_eq_getElem (by rw [HNA.out]; exact hjN)⟩
                    have HRM := Lib.hid (List.mem_of_getElem? hr)
                    obtain ⟨ga, rfl, -⟩ := own_some (A := Aa) (by have := OA.out.own; rw [HNA.out] at this; exact this) (by omega)
                    have hx := fun V (hV : Mods Nil wr V) => sh_lit (OA.out.nil (m.trans hV)) HNA.out hr
                    have hy := fun V (hV : Mods Nil wr V) => sh_lit (Ha.out.sh.nil (m.trans hV)) Ha.out.len9 HQ.out
                    have HSX := Lib.hid (fun V (hV : Mods Nil wr V) => (OA.out.nil (m.trans hV)).sl hr)
                    have HSY := Lib.hid (fun V (hV : Mods Nil wr V) => (Ha.out.sh.nil (m.trans hV)).sl HQ.out)
                    have x0 := fun V hV => (hx V hV).1
                    have x1 := fun V hV => (hx V hV).2.1
                    have x2 := fun V hV => (hx V hV).2.2.1
                    have x3 := fun V hV => (hx V hV).2.2.2
                    have y0 := fun V hV => (hy V hV).1
                    have y1 := fun V hV => (hy V hV).2.1
                    have y2 := fun V hV => (hy V hV).2.2.1
                    have y3 := fun V hV => (hy V hV).2.2.2
                    have HTK : Hid (la.take (j2 + 1) = la.take j2 ++ [r]) := Lib.hid (by
                      obtain ⟨hj3, e⟩ := List.getElem?_eq_some_iff.1 hr
                      rw [List.take_succ_eq_append_getElem hj3, e])
                    obtain ⟨fb, hfb⟩ : ∃ fb, foundB q.id (la.take j2) = fb := ⟨_, rfl⟩
                    have HFB := Lib.hid hfb
                    rw [hfb]
                    obtain ⟨id1, hid1⟩ : ∃ x, r.id = x := ⟨_, rfl⟩
                    obtain ⟨id2, hid2⟩ : ∃ x, q.id = x := ⟨_, rfl⟩
                    have HI1 := Lib.hid hid1
                    have HI2 := Lib.hid hid2
                    rw [hid1] at x0
                    rw [hid2] at y0
                    clear m hx hy hr hfb
                    by_cases hid : id1 = id2
                    · have hpr := Ha.out.pair PA.out HQM.out HRM.out (by rw [hid1, hid2]; exact hid)
                      obtain ⟨hpr1, hpr2, hpr3⟩ := hpr
                      have HLE := Lib.hid hpr2
                      have HB4 : Hid (r.lens.length ≤ 1000000) := Lib.hid (by have := sh_len Ha.out.has.good PA.out HRM.out; omega)
                      have HB5 : Hid (q.lens.length ≤ 1000000) := Lib.hid (by have := sh_len Ha.out.good0 Ha.out.pl HQM.out; omega)
                      subst hid
                      have hfn : foundB q.id (la.take (j2 + 1)) = true := by
                        rw [HTK.out, foundB_snoc, HI1.out, HI2.out]
                        simp
                      have HFN := Lib.hid hfn
                      rw [hpr1] at x1
                      obtain ⟨sg, hsg⟩ : ∃ x, q.segs = x := ⟨_, rfl⟩
                      obtain ⟨fr, hfr⟩ : ∃ x, r.fin = x := ⟨_, rfl⟩
                      obtain ⟨fq, hfq⟩ : ∃ x, q.fin = x := ⟨_, rfl⟩
                      obtain ⟨sm, hsm⟩ : ∃ x, decide (r.lens = q.lens) = x := ⟨_, rfl⟩
                      rw [hsg] at x1 y1
                      rw [hfr] at x3
                      rw [hfq] at y3
                      have HSM := Lib.hid hsm
                      have hall : fq = true → fr = true ∧ sm = true := fun h => by
                        obtain ⟨e1, e2⟩ := hpr3 (by rw [hfq]; exact h)
                        exact ⟨by rw [← hfr]; exact e2, by rw [← hsm]; simp [e1]⟩
                      have HALL := Lib.hid hall
                      clear hpr1 hpr2 hpr3 hfn hid1 hid2 hsg hfr hfq hsm hall
                      go_wp2_with fail
                      refine gq_region (by kernel_rfl) (by kernel_rfl) ?_
                      try simp only [Act.put, List.setIfInBounds_toArray, List.set_cons_zero, List.set_cons_succ]
                      repeat (first
                        | go_big_quiet_skip
                        | (go_big_quiet_want; first
                            | (refine gq_op (v := ?_) ?_ ?_; rotate_left; (focus (intro V hV; go_simp; try with_reducible rfl)); go_big_quiet_on))
                          simp only [Act.put, List.setIfInBounds_toArray, List.set_cons_zero, List.set_cons_succ])
                      refine wpQuiet_nil ?_
                      intro V hV
                      have HV := Lib.hid hV
                      clear hV
                      go_wp2_with fail
                      refine hw_region (S := fun W => Mods Nil wr W) 12 (by kernel_rfl) rfl ?_
                      refine hw_reads 0 10 2 (by kernel_rfl) (fun _ _ _ _ _ h => h) (HV.out.drew) ?_
                      simp only [List.drop_zero, List.take_succ_cons, List.take_zero]
                      repeat (refine hw_op (by rfl) (v := ?_) ?_ ?_; rotate_left; (focus (intro V hV; go_simp; try with_reducible rfl)); simp only [Act.put, List.setIfInBounds_toArray, List.set_cons_zero, List.set_cons_succ])
                      refine hw_nil ?_
                      refine hw_call 10 1 rfl (by kernel_rfl) (by rfl) 19 #[.slice r.A r.lens.length r.c, .slice q.A q.lens.length q.c] (by go_simp) ((r9same_any _ rfl HB4.out (HSX.out _ HV.out.drew) rfl (HSY.out _ HV.out.drew)).mono ?_)
                      rintro e w7 ⟨rfl, m7⟩
                      rw [HSM.out]
                      have H7 := Lib.hid (HV.out.drew.trans m7)
                      refine ⟨_, rfl, H7.out, ?_⟩
                      simp only [List.getElem_toArray, List.getElem_cons_succ, List.getElem_cons_zero, Act.put, List.setIfInBounds_toArray, List.set_cons_zero, List.set_cons_succ]
                      refine hw_one 11 0 rfl (by kernel_rfl) (by rfl) (v := .bool sm) (w' := w7) ?_ H7.out ?_
                      · go_simp
                      simp only [List.getElem_toArray, List.getElem_cons_succ, List.getElem_cons_zero, Act.put, List.setIfInBounds_toArray, List.set_cons_zero, List.set_cons_succ]
                      refine hw_done (by kernel_rfl) ?_
                      clear m7
                      go_wp2_with fail
                      refine hw_region (S := fun W => Mods Nil wr W) 12 (by kernel_rfl) rfl ?_
                      refine hw_reads 0 10 2 (by kernel_rfl) (fun _ _ _ _ _ h => h) (H7.out.drew) ?_
                      simp only [List.drop_zero, List.take_succ_cons, List.take_zero]
                      repeat (refine hw_op (by rfl) (v := ?_) ?_ ?_; rotate_left; (focus (intro V hV; go_simp; try with_reducible rfl)); simp only [Act.put, List.setIfInBounds_toArray, List.set_cons_zero, List.set_cons_succ])
                      refine hw_nil ?_
                      refine hw_call 10 1 rfl (by kernel_rfl) (by rfl) 20 #[.slice q.A q.lens.length q.c, .slice r.A r.lens.length r.c] (by go_simp) ((r9le_any _ rfl HB5.out (HSY.out _ H7.out.drew) rfl (HSX.out _ H7.out.drew)).mono ?_)
                      rintro e w8b ⟨rfl, m8b⟩
                      rw [HLE.out]
                      have H8b := Lib.hid (H7.out.drew.trans m8b)
                      refine ⟨_, rfl, H8b.out, ?_⟩
                      simp only [List.getElem_toArray, List.getElem_cons_succ, List.getElem_cons_zero, Act.put, List.setIfInBounds_toArray, List.set_cons_zero, List.set_cons_succ]
                      refine hw_one 11 0 rfl (by kernel_rfl) (by rfl) (v := .bool true) (w' := w8b) ?_ H8b.out ?_
                      · go_simp
                      simp only [List.getElem_toArray, List.getElem_cons_succ, List.getElem_cons_zero, Act.put, List.setIfInBounds_toArray, List.set_cons_zero, List.set_cons_succ]
                      refine hw_done (by kernel_rfl) ?_
                      clear m8b
                      replace x1 := fun V (hV : Mods Nil w8b V) => x1 V (H8b.out.trans hV)
                      replace y1 := fun V (hV : Mods Nil w8b V) => y1 V (H8b.out.trans hV)
                      replace x3 := fun V (hV : Mods Nil w8b V) => x3 V (H8b.out.trans hV)
                      replace y3 := fun V (hV : Mods Nil w8b V) => y3 V (H8b.out.trans hV)
                      clear x0 x2 y0 y2
                      cases fq with
                      | false =>
                        go_wp2_with fail
                        refine gq_region (by kernel_rfl) (by kernel_rfl) ?_
                        try simp only [Act.put, List.setIfInBounds_toArray, List.set_cons_zero, List.set_cons_succ]
                        repeat (first
                          | go_big_quiet_skip
                          | (go_big_quiet_want; first
                              | (refine gq_op (v := ?_) ?_ ?_; rotate_left; (focus (intro V2 hV2; go_simp; try with_reducible rfl)); go_big_quiet_on))
                            simp only [Act.put, List.setIfInBounds_toArray, List.set_cons_zero, List.set_cons_succ])
                        refine wpQuiet_nil ?_
                        intro V2 hV2
                        have HV2 := Lib.hid (HM2.out.trans (H8b.out.trans hV2))
                        clear hV2 x1 x3 y1 y3
                        go_wp2_with fail
                        exact ⟨⟨j2 + 1, by omega, by go_num, by rw [HFN.out], HV2.out⟩, by simp [intOf]; omega⟩
                      | true =>
                        obtain ⟨rfl, rfl⟩ := HALL.out rfl
                        go_wp2_with fail
                        refine gq_region (by kernel_rfl) (by kernel_rfl) ?_
                        try simp only [Act.put, List.setIfInBounds_toArray, List.set_cons_zero, List.set_cons_succ]
                        repeat (first
                          | go_big_quiet_skip
                          | (go_big_quiet_want; first
                              | (refine gq_op (v := ?_) ?_ ?_; rotate_left; (focus (intro V2 hV2; go_simp; try with_reducible rfl)); go_big_quiet_on))
                            simp only [Act.put, List.setIfInBounds_toArray, List.set_cons_zero, List.set_cons_succ])
                        refine wpQuiet_nil ?_
                        intro V2 hV2
                        have HV2 := Lib.hid (HM2.out.trans (H8b.out.trans hV2))
                        clear hV2 x1 x3 y1 y3
                        go_wp2_with fail
                        exact ⟨⟨j2 + 1, by omega, by go_num, by rw [HFN.out], HV2.out⟩, by simp [intOf]; omega⟩
                    · have hne : (id1 != id2) = true := by simp [hid]
                      have hfn : foundB q.id (la.take (j2 + 1)) = fb := by
                        rw [HTK.out, foundB_snoc, HFB.out, HI1.out, HI2.out]
                        simp [hid]
                      have HFN := Lib.hid hfn
                      clear hid hfn hid1 hid2
                      go_wp2_with fail
                      refine gq_region (by kernel_rfl) (by kernel_rfl) ?_
                      try simp only [Act.put, List.setIfInBounds_toArray, List.set_cons_zero, List.set_cons_succ]
                      repeat (first
                        | go_big_quiet_skip
                        | (go_big_quiet_want; first
                            | (refine gq_op (v := ?_) ?_ ?_; rotate_left; (focus (intro V hV; go_simp; try with_reducible rfl)); go_big_quiet_on))
                          simp only [Act.put, List.setIfInBounds_toArray, List.set_cons_zero, List.set_cons_succ])
                      refine wpQuiet_nil ?_
                      intro V hV
                      have HV := Lib.hid (HM2.out.trans hV)
                      clear hV x0 x1 x2 x3 y0 y1 y2 y3
                      go_wp2_with fail
                      exact ⟨⟨j2 + 1, by omega, by go_num, by rw [HFN.out], HV.out⟩, by simp [intOf]; omega⟩
                  · obtain rfl : j2 = na := by omega
                    have hfn : foundB q.id (la.take j2) = true := by
                      rw [List.take_of_length_le (by rw [HNA.out]; exact Nat.le_refl _)]
                      exact Ha.out.found PA.out HQM.out
                    rw [hfn]
                    clear m hfn
                    go_wp2_with fail
                    exact ⟨⟨i + 1, by omega, by go_num, HM2.out⟩, by simp [intOf]; omega⟩
              · obtain rfl : i = n9 := by omega
                clear m
                go_wp2_with fail
                go_ret
                exact ⟨rfl, Ha.out.has.m.trans HMM.out⟩
end Go.Proofs.Ytkodmgnagfolpaa
