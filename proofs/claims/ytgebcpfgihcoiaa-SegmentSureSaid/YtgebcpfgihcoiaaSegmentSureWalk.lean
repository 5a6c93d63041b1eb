/- SegmentSure's walk. -/
import Derived.Test.YtgebcpfgihcoiaaHelp7c
namespace Go.Proofs.Ytgebcpfgihcoiaa
set_option maxRecDepth 1000000
open Go.RowKit
set_option linter.unusedVariables false

set_option maxHeartbeats 25600000 in
theorem segmentSure_walk (w : World) {A0 : Option Addr} {c0 n : Nat} {l : List Row} (hn : l.length = n) (hs : Sl w A0 c0 (l.map Row.val)) (hr : ∀ r ∈ l, r.ok w) {A1 : Option Addr} {c1 m : Nat} {ys : List UInt8} (hm : ys.length = m) (hs1 : Sl w A1 c1 (bts ys)) {A2 : Option Addr} {c2 p : Nat} {lp : List Row} (hp : lp.length = p) (hs2 : Sl w A2 c2 (lp.map Row.val)) (hr2 : ∀ r ∈ lp, r.ok w) :
    Calls Try.prog 4 #[.slice A0 n c0, .slice A1 m c1, .slice A2 p c2] w fun e w' => e = .returned (.bool true) ∧ Mods Nil w w' := by
  by_cases h16 : 16 < n
  · have h16I : decide ((16 : Int) < (n : Int)) = true := by simp; omega
    clear hn hs hr hm hs1 hp hs2 hr2
    go_enter Try.func4, Try.ntmps4
    go_wp2_with (go_at_call 9; refine (awake7_any _).mono ?_; rintro e w1 ⟨rfl, m1⟩; have M1 := Lib.hid m1; clear m1)
    go_ret
    exact ⟨rfl, M1.out⟩
  have h16I : decide ((16 : Int) < (n : Int)) = false := by simp; omega
  by_cases hmn : m < n
  · have hmnI : decide ((m : Int) < (n : Int)) = true := by simp; omega
    clear hn hs hr hm hs1 hp hs2 hr2
    go_enter Try.func4, Try.ntmps4
    go_wp2_with (go_at_call 9; refine (awake7_any _).mono ?_; rintro e w1 ⟨rfl, m1⟩; have M1 := Lib.hid m1; clear m1)
    go_ret
    exact ⟨rfl, M1.out⟩
  have hmnI : decide ((m : Int) < (n : Int)) = false := by simp; omega
  by_cases hpn : p < n
  · have hpnI : (p : Int) < (n : Int) := by omega
    clear hn hs hr hm hs1 hp hs2 hr2
    go_enter Try.func4, Try.ntmps4
    go_wp2_with (go_at_call 9; refine (awake7_any _).mono ?_; rintro e w1 ⟨rfl, m1⟩; have M1 := Lib.hid m1; clear m1)
    go_ret
    exact ⟨rfl, M1.out⟩
  have hpnI : (n : Int) ≤ (p : Int) := by omega
  have HN16 := Lib.hid (show n ≤ 16 by omega)
  have HNM := Lib.hid (show n ≤ m by omega)
  have HNP := Lib.hid (show n ≤ p by omega)
  have HROW := Lib.hid (fun j (hj : j < n) => in7_at hn (ls := l.map (·.xs)) rfl hs hr hj)
  have HROWP := Lib.hid (fun j (hj : j < p) => in7_at hp (ls := lp.map (·.xs)) rfl hs2 hr2 hj)
  have HM := Lib.hid hm
  have HP := Lib.hid hs1
  have HN := Lib.hid (new7 120 (by omega) (by omega))
  have HO := Lib.hid (open7 120 (by omega) (by omega))
  clear hn hs hr hm hs1 hp hs2 hr2 h16 hmn hpn
  go_enter Try.func4, Try.ntmps4
  go_wp2_with (first
    | (go_at_call 9; refine (awake7_any _).mono ?_; rintro e w1 ⟨rfl, m1⟩; have M1 := Lib.hid m1; clear m1)
    | (go_at_call 10; refine (HN.out _ w.heap.size M1.out.size).mono ?_; rintro e w2 ⟨db, rfl, d2, m2⟩; have D2 := Lib.hid d2; have M2 := Lib.hid (M1.out.trans m2); clear d2 m2)
    | (go_at_call 12; refine (HO.out _ w.heap.size _ D2.out M2.out.size).mono ?_; rintro e w3 ⟨sb, rfl, a3, m3⟩; have A3 := Lib.hid a3; have M3 := Lib.hid (M2.out.trans m3); clear a3 m3))
  go_loopw [10, 11, 12, 13, 14] (fun s er al su x wr => ∃ (i sb E : Nat) (L : List (List UInt8)) (old : Recs) (news : List (List UInt8)) (A : Option Addr) (c K o : Nat) (R : List (List UInt8)), i ≤ n ∧ s = .pointer (some ⟨sb, 0, none⟩) ∧ er = .int .i64 0 ∧ al = .slice A K c ∧ su = .int .i64 (o : Int) ∧ x = .int .i64 (i : Int) ∧ At7 wr w.heap.size sb db [] L [] old news E 120 ∧ All7 wr w.heap.size A c K (strs R) ∧ E ≤ i + 1 ∧ old.map (·.1) ++ news = R ∧ usedP old + usedP (with_ E news) ≤ 4 * i ∧ old.length = o ∧ old.length + news.length = K ∧ K ≤ i ∧ Mods Nil w wr) (fun _ _ _ _ x _ => n - (intOf x).toNat)
  case atStart => exact ⟨0, sb, 1, _, [], [], none, 0, 0, 0, [], Nat.zero_le _, rfl, rfl, rfl, rfl, rfl, A3.out, All7.none_ _ _, Nat.le_refl _, rfl, Nat.le_refl _, rfl, rfl, Nat.le_refl _, M3.out⟩
  case round =>
    clear A3 HN HO
    obtain ⟨i, sb, E, L, old, news, A, c, K, o, R, hi, rfl, rfl, rfl, rfl, rfl, ha, hal, hE, hR, hus, ho, hlen, hK, hmo⟩ := hrel
    have HA := Lib.hid ha
    have HAL := Lib.hid hal
    have HE := Lib.hid hE
    have HR := Lib.hid hR
    have HU := Lib.hid hus
    have HO := Lib.hid ho
    have HLEN := Lib.hid hlen
    have HKK := Lib.hid hK
    have HMO := Lib.hid hmo
    clear ha hal hE hR hus ho hlen hK hmo
    by_cases hlt : i < n
    · have hltI : (i : Int) < (n : Int) := by omega
      have hw6 : IntKind.i64.wrap ((i : Int) + 1) = (i : Int) + 1 := by rw [IntKind.wrap_i64]; have := HN16.out; omega
      have hip : i < p := by have := HNP.out; omega
      have hipI : (i : Int) < (p : Int) := by omega
      have himI : (i : Int) < (m : Int) := by have := HNM.out; omega
      obtain ⟨b, off, r, rfl, hrow, hrok, hblt, hcell⟩ := HROW.out i hlt
      obtain ⟨q, hq⟩ : ∃ q, r.xs.length = q := ⟨_, rfl⟩
      rw [hq] at hcell
      have CFL : Hid (∀ V, Mods Nil w V → V.cell? ⟨b, off + i, none⟩ = some (.slice r.A q r.c)) := Lib.hid (fun V hV => (World.cell?_of_block (hV.block b hblt (fun h => h))).trans hcell)
      have cl0 := CFL.out _ HMO.out
      clear hcell hblt hrow
      by_cases h150 : 150 < q
      · have h150I : decide ((150 : Int) < (q : Int)) = true := by simp; omega
        clear hrok hq
        go_wp2_with fail
        go_ret
        exact ⟨rfl, HMO.out⟩
      have h150I : decide ((150 : Int) < (q : Int)) = false := by simp; omega
      have hneed := needP_150 (show q ≤ 150 by omega)
      obtain ⟨bp, offp, rp, rfl, hrowp, hrokp, hbltp, hcellp⟩ := HROWP.out i hip
      obtain ⟨pq, hpq⟩ : ∃ q, rp.xs.length = q := ⟨_, rfl⟩
      rw [hpq] at hcellp
      have CFP : Hid (∀ V, Mods Nil w V → V.cell? ⟨bp, offp + i, none⟩ = some (.slice rp.A pq rp.c)) := Lib.hid (fun V hV => (World.cell?_of_block (hV.block bp hbltp (fun h => h))).trans hcellp)
      have cp0 := CFP.out _ HMO.out
      clear hcellp hbltp hrowp
      by_cases h30 : 30 < pq
      · have h30I : (30 : Int) < (pq : Int) := by omega
        clear hrok hq hrokp hpq hneed
        go_wp2_with fail
        go_ret
        exact ⟨rfl, HMO.out⟩
      have h30I : (pq : Int) ≤ 30 := by omega
      have hiy : i < ys.length := by rw [HM.out]; have := HNM.out; omega
      obtain ⟨bA, oA, rfl, hbA, hc⟩ := HP.out.at_ (by rw [bts_length]; omega)
      have hcy := hc i _ (bts_get ys i hiy)
      obtain ⟨y, hy⟩ : ∃ y, (ys[i]'hiy).toNat = y := ⟨_, rfl⟩
      rw [hy] at hcy
      have CFY : Hid (∀ V, Mods Nil w V → V.cell? ⟨bA, oA + i, none⟩ = some (.int .u8 (y : Int))) := Lib.hid (fun V hV => (World.cell?_of_block (hV.block bA hbA (fun h => h))).trans hcy)
      obtain ⟨u3, hand3⟩ : ∃ u, bits .and .u8 (y : Int) 3 = u := ⟨_, rfl⟩
      obtain ⟨u12, hand12⟩ : ∃ u, bits .and .u8 (y : Int) 12 = u := ⟨_, rfl⟩
      obtain ⟨K1, hK1⟩ : ∃ K1, K + 1 = K1 := ⟨_, rfl⟩
      have HK1 := Lib.hid hK1
      have HQ := Lib.hid hq
      have HPQ := Lib.hid hpq
      have HROK : Hid (r.ok w) := Lib.hid hrok
      have HRP : Hid (Sl w rp.A rp.c (bts rp.xs)) := Lib.hid hrokp
      have HAP := Lib.hid (a7append (k := (K : Int)) HA.out (by have := HU.out; have := HN16.out; omega) ((Sb.arg hrok (Nat.le_refl _)).nil HMO.out) hq (by omega) (by have := HU.out; have := HN16.out; omega) (by have := HLEN.out; omega))
      have HU2 : Hid (usedP old + usedP (with_ E (news ++ [r.xs])) ≤ 4 * (i + 1)) := by
        rw [with_snoc, hq]
        have := HU.out
        exact Lib.hid (by omega)
      clear hrok hrokp hq hpq hc hcy hy hiy hbA hneed hK1
      by_cases hu3 : u3 = 1
      · subst hu3
        by_cases hu12 : u12 = 4
        · subst hu12
          have HR1 : Hid ((old ++ with_ E (news ++ [r.xs])).map (·.1) ++ [] = R ++ [r.xs]) := Lib.hid (by rw [List.map_append, with_fst, List.append_nil, ← List.append_assoc, HR.out])
          have HO1 : Hid ((old ++ with_ E (news ++ [r.xs])).length = K1) := Lib.hid (by have := HK1.out; have := HLEN.out; simp [with_length]; omega)
          have HU1 : Hid (usedP (old ++ with_ E (news ++ [r.xs])) + usedP (with_ E []) ≤ 4 * (i + 1)) := Lib.hid (by rw [usedP_append]; exact HU2.out)
          have HL1 : Hid ((old ++ with_ E (news ++ [r.xs])).length + ([] : List (List UInt8)).length = K1) := HO1
          have HON : (o : Int) ≤ (K1 : Int) := by have := HO.out; have := HLEN.out; have := HK1.out; omega
          go_wp2_with (first
            | (go_at_call 14; refine HAP.out.mono ?_; rintro e w5 ⟨rfl, a5, m5⟩; have AT5 := Lib.hid a5; have M5 := Lib.hid (SM.nilTrans HMO.out (Nat.le_refl _) m5); have AL5 := Lib.hid (HAL.out.sm m5); have c5 := CFL.out _ M5.out; have cv5 := conv7 HQ.out (HROK.out.mods M5.out); clear a5 m5)
            | (at_builtin; refine wpList_append_all rfl _ _ rfl rfl (AL5.out.nil ((Mods.refl Nil w5).alloc (.cells #[.string (strOf r.xs)] 9))) rfl (one_sl _ _ _) (by have := HKK.out; have := HN16.out; omega) HK1.out (by have := M5.out.size; simp; omega) ?_; intro A6 c6 w6 al6 m6; rw [strs_snoc] at al6; have AT6 := Lib.hid ((AT5.out.nil ((Mods.refl Nil w5).alloc _)).sr m6); have AL6 := Lib.hid al6; have M6 := Lib.hid (sr_nil (M5.out.alloc _) m6); have cy6 := CFY.out _ M6.out; have cp6 := CFP.out _ M6.out; clear al6 m6)
            | (go_at_call 17; refine (a7sync AT6.out (by have := HE.out; have := HN16.out; omega)).mono ?_; rintro e w7 ⟨rfl, a7, m7⟩; have AT7 := Lib.hid a7; have AL7 := Lib.hid (AL6.out.sm m7); have M7 := Lib.hid (SM.nilTrans M6.out (Nat.le_refl _) m7); have cy7 := CFY.out _ M7.out; have cp7 := CFP.out _ M7.out; clear a7 m7)
            | (go_at_call 26; refine (a7crash AT7.out.disk AT7.out.run (by have := HE.out; have := HN16.out; omega) (by omega) ((Bs.arg HRP.out (Nat.le_refl _)).nil M7.out) HPQ.out).mono ?_; rintro e w8 ⟨rfl, ⟨j, L8, E8, hj8, d8, op8, st8, le8, r8⟩, m8⟩; have D8 := Lib.hid d8; have OP8 := Lib.hid op8; have ST8 := Lib.hid st8; have LE8 := Lib.hid le8; have R8 := Lib.hid r8; have HJ8 := Lib.hid hj8; have M8 := Lib.hid (DM.nilTrans M7.out (Nat.le_refl _) m8); have AL8 := Lib.hid (AL7.out.dm m8); obtain ⟨K8, hK8⟩ : ∃ K8, (old ++ with_ E (news ++ [r.xs])).length + j = K8 := ⟨_, rfl⟩; have HK8 := Lib.hid hK8; have k81 : K8 ≤ K1 := (by have := HL1.out; have := HJ8.out; omega); have k1I : (K1 : Int) ≤ (K8 : Int) := (by have := HO1.out; have := HK8.out; omega); have k2I : (K8 : Int) ≤ (K1 : Int) := (by omega); obtain ⟨hcut8, alc⟩ := AL8.out.cut k81; rw [strs_take] at alc; have ALC := Lib.hid alc; have HOF : Hid ((old ++ with_ E (news ++ [r.xs]) ++ with_ E (([]).take j)).length = K8) := Lib.hid (by rw [List.length_append, with_length, List.length_take]; have := HK8.out; have := HJ8.out; omega); clear d8 op8 st8 le8 r8 hj8 m8 hK8 alc)
            | (go_at_call 12; refine (a7open (a := 0) (k := 120) D8.out M8.out.size OP8.out R8.out (by omega) (by simp) (by have := HE.out; have := HN16.out; have := ST8.out; have := LE8.out; omega) rfl rfl).mono ?_; rintro e w9 ⟨sb2, rfl, a9, m9⟩; have AT9 := Lib.hid a9; have X9 := Lib.hid m9; clear a9 m9)
            | (go_at_call 30; refine (a7len AT9.out (k := (K8 : Int)) (by have := HOF.out; simp only [List.length_nil]; omega)).mono ?_; rintro e w10 ⟨rfl, mm⟩; have AT10 := Lib.hid (AT9.out.nil mm); have X10 := Lib.hid (X9.out.trans mm); clear mm)
            | (go_at_call 30; refine (a7len AT10.out (k := (K8 : Int)) (by have := HOF.out; simp only [List.length_nil]; omega)).mono ?_; rintro e w11 ⟨rfl, mm⟩; have AT11 := Lib.hid (AT10.out.nil mm); have X11 := Lib.hid (X10.out.trans mm); clear mm)
            | (go_at_call 30; refine (a7len AT11.out (k := (K8 : Int)) (by have := HOF.out; simp only [List.length_nil]; omega)).mono ?_; rintro e w12 ⟨rfl, mm⟩; have AT12 := Lib.hid (AT11.out.nil mm); have X12 := Lib.hid (X11.out.trans mm); clear mm)
            | (go_at_call 30; refine (a7len AT12.out (k := (K8 : Int)) (by have := HOF.out; simp only [List.length_nil]; omega)).mono ?_; rintro e w13 ⟨rfl, mm⟩; have AT13 := Lib.hid (AT12.out.nil mm); have X13 := Lib.hid (X12.out.trans mm); clear mm)
            | (go_at_call 30; refine (a7len AT13.out (k := (K8 : Int)) (by have := HOF.out; simp only [List.length_nil]; omega)).mono ?_; rintro e w14 ⟨rfl, mm⟩; have AT14 := Lib.hid (AT13.out.nil mm); have X14 := Lib.hid (X13.out.trans mm); clear mm)
            | (go_at_call 31; refine (a7sure AT14.out (k := (K8 : Int)) (by have := HOF.out; omega)).mono ?_; rintro e w15 ⟨rfl, mm⟩; have ATF := Lib.hid (AT14.out.nil mm); have XF := Lib.hid (X14.out.trans mm); clear mm))
          have ALF := Lib.hid (ALC.out.nil XF.out)
          have MF := Lib.hid (M8.out.trans XF.out)
          have HRF : Hid ((old ++ with_ E (news ++ [r.xs]) ++ with_ E (([]).take j)).map (·.1) ++ [] = (R ++ [r.xs]).take K8) := Lib.hid (by rw [← HK8.out]; exact take_recs HR1.out)
          have HRL : Hid (((R ++ [r.xs]).take K8).length = K8) := Lib.hid (by have := congrArg List.length HRF.out; simp only [List.length_append, List.length_map, List.length_nil] at this; have h2 := HOF.out; simp only [List.length_append] at h2; omega)
          have HLF : Hid ((old ++ with_ E (news ++ [r.xs]) ++ with_ E (([]).take j)).length + ([] : List (List UInt8)).length = K8) := HOF
          have HUF : Hid (usedP (old ++ with_ E (news ++ [r.xs]) ++ with_ E (([]).take j)) + usedP (with_ E8 []) ≤ 4 * (i + 1)) := Lib.hid (by have := HU1.out; have := usedP_take E j ([]); rw [usedP_append]; show _ + 0 ≤ _; omega)
          have HEF : Hid (E8 ≤ i + 1 + 1) := Lib.hid (by have := HE.out; have := LE8.out; omega)
          have HKF : Hid (K8 ≤ i + 1) := Lib.hid (by have := HKK.out; have := HK1.out; omega)
          have HK17 : Hid (K8 ≤ 17) := Lib.hid (by have := HKF.out; have := HN16.out; omega)
          go_loopw [17] (fun x wr2 => ∃ (t : Nat), t ≤ K8 ∧ x = .int .i64 (t : Int) ∧ At7 wr2 w.heap.size sb2 db [] L8 [] (old ++ with_ E (news ++ [r.xs]) ++ with_ E (([]).take j)) ([]) E8 120 ∧ All7 wr2 w.heap.size A6 K8 K8 (strs ((R ++ [r.xs]).take K8)) ∧ Mods Nil w wr2) (fun x _ => K8 - (intOf x).toNat)
          case atStart => exact ⟨0, Nat.zero_le _, rfl, ATF.out, ALF.out, MF.out⟩
          case round =>
            clear ATF ALF MF
            obtain ⟨t, ht, rfl, hat, hal, hmo⟩ := hrel
            have HT := Lib.hid hat
            have HALT := Lib.hid hal
            have HMT := Lib.hid hmo
            clear hat hal hmo
            by_cases hltt : t < K8
            · have httI : (t : Int) < (K8 : Int) := by omega
              have hw8 : IntKind.i64.wrap ((t : Int) + 1) = (t : Int) + 1 := by rw [IntKind.wrap_i64]; have := HK17.out; omega
              obtain ⟨x, hx⟩ : ∃ x, (((R ++ [r.xs]).take K8))[t]? = some x := ⟨_, List.getElem?_eq_getElem (by rw [HRL.out]; exact hltt)⟩
              obtain ⟨q2, hq2⟩ : ∃ q, x.length = q := ⟨_, rfl⟩
              obtain ⟨ba, oa, rfl, hba, hca⟩ := HALT.out.sl.at_ (by rw [strs_length, HRL.out]; omega)
              have hcell2 := hca t _ (strs_at hx)
              have HRD := Lib.hid (a7read HT.out (k := t) (b := x) (by have := HLF.out; omega) (by rw [HRF.out, List.getD_eq_getElem?_getD, hx]; rfl) rfl)
              have HQ2 := Lib.hid hq2
              have HC2 := Lib.hid hcell2
              have HBA := Lib.hid hba
              clear hx hq2 hcell2 hca hba
              go_wp2_with (go_at_call 32; refine HRD.out.mono ?_; rintro e w20 ⟨A20, c20, m20, rfl, l20, s20, k20⟩; obtain rfl : q2 = m20 := HQ2.out.symm.trans l20; have S20 := Lib.hid s20; have K20 := Lib.hid k20; clear s20 k20 l20)
              have v1 := fun nq => conv7 HQ2.out (S20.out.drewN nq)
              have c1 := (World.cell?_of_block (K20.out.block ba HBA.out (fun h => h))).trans HC2.out
              go_quiet (fail)
              go_wp2_with fail
              exact ⟨⟨t + 1, by omega, by go_num, (HT.out.nil K20.out).nil ((Mods.refl Nil w20).drewN _), (HALT.out.nil K20.out).nil ((Mods.refl Nil w20).drewN _), (HMT.out.trans K20.out).drewN _⟩, by simp [intOf]; omega⟩
            · have hte : t = K8 := by omega
              clear hltt ht
              subst hte
              go_wp2_with fail
              exact ⟨⟨i + 1, sb2, E8, _, _, _, A6, _, t, t, _, by omega, rfl, rfl, rfl, rfl, by go_num, HT.out, HALT.out, HEF.out, HRF.out, HUF.out, HOF.out, HLF.out, HKF.out, HMT.out⟩, by simp [intOf]; omega⟩
        · have hu12B : (u12 == 4) = false := by simp; omega
          have HR1 : Hid ((old ++ with_ E (news ++ [r.xs])).map (·.1) ++ [] = R ++ [r.xs]) := Lib.hid (by rw [List.map_append, with_fst, List.append_nil, ← List.append_assoc, HR.out])
          have HO1 : Hid ((old ++ with_ E (news ++ [r.xs])).length = K1) := Lib.hid (by have := HK1.out; have := HLEN.out; simp [with_length]; omega)
          have HU1 : Hid (usedP (old ++ with_ E (news ++ [r.xs])) + usedP (with_ E []) ≤ 4 * (i + 1)) := Lib.hid (by rw [usedP_append]; exact HU2.out)
          have HL1 : Hid ((old ++ with_ E (news ++ [r.xs])).length + ([] : List (List UInt8)).length = K1) := HO1
          go_wp2_with (first
            | (go_at_call 14; refine HAP.out.mono ?_; rintro e w5 ⟨rfl, a5, m5⟩; have AT5 := Lib.hid a5; have M5 := Lib.hid (SM.nilTrans HMO.out (Nat.le_refl _) m5); have AL5 := Lib.hid (HAL.out.sm m5); have c5 := CFL.out _ M5.out; have cv5 := conv7 HQ.out (HROK.out.mods M5.out); clear a5 m5)
            | (at_builtin; refine wpList_append_all rfl _ _ rfl rfl (AL5.out.nil ((Mods.refl Nil w5).alloc (.cells #[.string (strOf r.xs)] 9))) rfl (one_sl _ _ _) (by have := HKK.out; have := HN16.out; omega) HK1.out (by have := M5.out.size; simp; omega) ?_; intro A6 c6 w6 al6 m6; rw [strs_snoc] at al6; have AT6 := Lib.hid ((AT5.out.nil ((Mods.refl Nil w5).alloc _)).sr m6); have AL6 := Lib.hid al6; have M6 := Lib.hid (sr_nil (M5.out.alloc _) m6); have cy6 := CFY.out _ M6.out; have cp6 := CFP.out _ M6.out; clear al6 m6)
            | (go_at_call 17; refine (a7sync AT6.out (by have := HE.out; have := HN16.out; omega)).mono ?_; rintro e w7 ⟨rfl, a7, m7⟩; have AT7 := Lib.hid a7; have AL7 := Lib.hid (AL6.out.sm m7); have M7 := Lib.hid (SM.nilTrans M6.out (Nat.le_refl _) m7); have cy7 := CFY.out _ M7.out; have cp7 := CFP.out _ M7.out; clear a7 m7)
            | (go_at_call 30; refine (a7len AT7.out (k := (K1 : Int)) (by have := HL1.out; omega)).mono ?_; rintro e w9 ⟨rfl, mm⟩; have AT9 := Lib.hid (AT7.out.nil mm); have X9 := Lib.hid mm; clear mm)
            | (go_at_call 31; refine (a7sure AT9.out (k := (K1 : Int)) (by have := HO1.out; omega)).mono ?_; rintro e w10 ⟨rfl, mm⟩; have ATF := Lib.hid (AT9.out.nil mm); have XF := Lib.hid (X9.out.trans mm); clear mm))
          have ALF := Lib.hid (AL7.out.nil XF.out)
          have MF := Lib.hid (M7.out.trans XF.out)
          have HOF := HO1
          have HRF := HR1
          have HLF := HL1
          have HUF := HU1
          have HRL : Hid ((R ++ [r.xs]).length = K1) := Lib.hid (by have := congrArg List.length HRF.out; have h2 := HLF.out; simp at this h2 ⊢; omega)
          have HEF : Hid (E ≤ i + 1 + 1) := Lib.hid (by have := HE.out; omega)
          have HKF : Hid (K1 ≤ i + 1) := Lib.hid (by have := HKK.out; have := HK1.out; omega)
          have HK17 : Hid (K1 ≤ 17) := Lib.hid (by have := HKF.out; have := HN16.out; omega)
          go_loopw [17] (fun x wr2 => ∃ (t : Nat), t ≤ K1 ∧ x = .int .i64 (t : Int) ∧ At7 wr2 w.heap.size sb db [] (layAll L (rowW (usedP old) (blocksOf E old.length (news ++ [r.xs])))) [] (old ++ with_ E (news ++ [r.xs])) ([]) E 120 ∧ All7 wr2 w.heap.size A6 c6 K1 (strs (R ++ [r.xs])) ∧ Mods Nil w wr2) (fun x _ => K1 - (intOf x).toNat)
          case atStart => exact ⟨0, Nat.zero_le _, rfl, ATF.out, ALF.out, MF.out⟩
          case round =>
            clear ATF ALF MF
            obtain ⟨t, ht, rfl, hat, hal, hmo⟩ := hrel
            have HT := Lib.hid hat
            have HALT := Lib.hid hal
            have HMT := Lib.hid hmo
            clear hat hal hmo
            by_cases hltt : t < K1
            · have httI : (t : Int) < (K1 : Int) := by omega
              have hw8 : IntKind.i64.wrap ((t : Int) + 1) = (t : Int) + 1 := by rw [IntKind.wrap_i64]; have := HK17.out; omega
              obtain ⟨x, hx⟩ : ∃ x, ((R ++ [r.xs]))[t]? = some x := ⟨_, List.getElem?_eq_getElem (by rw [HRL.out]; exact hltt)⟩
              obtain ⟨q2, hq2⟩ : ∃ q, x.length = q := ⟨_, rfl⟩
              obtain ⟨ba, oa, rfl, hba, hca⟩ := HALT.out.sl.at_ (by rw [strs_length, HRL.out]; omega)
              have hcell2 := hca t _ (strs_at hx)
              have HRD := Lib.hid (a7read HT.out (k := t) (b := x) (by have := HLF.out; omega) (by rw [HRF.out, List.getD_eq_getElem?_getD, hx]; rfl) rfl)
              have HQ2 := Lib.hid hq2
              have HC2 := Lib.hid hcell2
              have HBA := Lib.hid hba
              clear hx hq2 hcell2 hca hba
              go_wp2_with (go_at_call 32; refine HRD.out.mono ?_; rintro e w20 ⟨A20, c20, m20, rfl, l20, s20, k20⟩; obtain rfl : q2 = m20 := HQ2.out.symm.trans l20; have S20 := Lib.hid s20; have K20 := Lib.hid k20; clear s20 k20 l20)
              have v1 := fun nq => conv7 HQ2.out (S20.out.drewN nq)
              have c1 := (World.cell?_of_block (K20.out.block ba HBA.out (fun h => h))).trans HC2.out
              go_quiet (fail)
              go_wp2_with fail
              exact ⟨⟨t + 1, by omega, by go_num, (HT.out.nil K20.out).nil ((Mods.refl Nil w20).drewN _), (HALT.out.nil K20.out).nil ((Mods.refl Nil w20).drewN _), (HMT.out.trans K20.out).drewN _⟩, by simp [intOf]; omega⟩
            · have hte : t = K1 := by omega
              clear hltt ht
              subst hte
              go_wp2_with fail
              exact ⟨⟨i + 1, sb, E, _, _, _, A6, _, t, t, _, by omega, rfl, rfl, rfl, rfl, by go_num, HT.out, HALT.out, HEF.out, HRF.out, HUF.out, HOF.out, HLF.out, HKF.out, HMT.out⟩, by simp [intOf]; omega⟩
      · have hu3B : (u3 == 1) = false := by simp; omega
        by_cases hu12 : u12 = 4
        · subst hu12
          have HR1 : Hid (old.map (·.1) ++ (news ++ [r.xs]) = R ++ [r.xs]) := Lib.hid (by rw [← List.append_assoc, HR.out])
          have HO1 : Hid (old.length = o) := HO
          have HU1 := HU2
          have HL1 : Hid (old.length + (news ++ [r.xs]).length = K1) := Lib.hid (by have := HK1.out; have := HLEN.out; simp; omega)
          have HON : (o : Int) ≤ (K1 : Int) := by have := HO.out; have := HLEN.out; have := HK1.out; omega
          go_wp2_with (first
            | (go_at_call 14; refine HAP.out.mono ?_; rintro e w5 ⟨rfl, a5, m5⟩; have AT5 := Lib.hid a5; have M5 := Lib.hid (SM.nilTrans HMO.out (Nat.le_refl _) m5); have AL5 := Lib.hid (HAL.out.sm m5); have c5 := CFL.out _ M5.out; have cv5 := conv7 HQ.out (HROK.out.mods M5.out); clear a5 m5)
            | (at_builtin; refine wpList_append_all rfl _ _ rfl rfl (AL5.out.nil ((Mods.refl Nil w5).alloc (.cells #[.string (strOf r.xs)] 9))) rfl (one_sl _ _ _) (by have := HKK.out; have := HN16.out; omega) HK1.out (by have := M5.out.size; simp; omega) ?_; intro A6 c6 w6 al6 m6; rw [strs_snoc] at al6; have AT6 := Lib.hid ((AT5.out.nil ((Mods.refl Nil w5).alloc _)).sr m6); have AL6 := Lib.hid al6; have M6 := Lib.hid (sr_nil (M5.out.alloc _) m6); have cy6 := CFY.out _ M6.out; have cp6 := CFP.out _ M6.out; clear al6 m6)
            | (go_at_call 26; refine (a7crash AT6.out.disk AT6.out.run (by have := HE.out; have := HN16.out; omega) (by omega) ((Bs.arg HRP.out (Nat.le_refl _)).nil M6.out) HPQ.out).mono ?_; rintro e w8 ⟨rfl, ⟨j, L8, E8, hj8, d8, op8, st8, le8, r8⟩, m8⟩; have D8 := Lib.hid d8; have OP8 := Lib.hid op8; have ST8 := Lib.hid st8; have LE8 := Lib.hid le8; have R8 := Lib.hid r8; have HJ8 := Lib.hid hj8; have M8 := Lib.hid (DM.nilTrans M6.out (Nat.le_refl _) m8); have AL8 := Lib.hid (AL6.out.dm m8); obtain ⟨K8, hK8⟩ : ∃ K8, (old).length + j = K8 := ⟨_, rfl⟩; have HK8 := Lib.hid hK8; have k81 : K8 ≤ K1 := (by have := HL1.out; have := HJ8.out; omega); have k1I : (o : Int) ≤ (K8 : Int) := (by have := HO1.out; have := HK8.out; omega); have k2I : (K8 : Int) ≤ (K1 : Int) := (by omega); obtain ⟨hcut8, alc⟩ := AL8.out.cut k81; rw [strs_take] at alc; have ALC := Lib.hid alc; have HOF : Hid ((old ++ with_ E ((news ++ [r.xs]).take j)).length = K8) := Lib.hid (by rw [List.length_append, with_length, List.length_take]; have := HK8.out; have := HJ8.out; omega); clear d8 op8 st8 le8 r8 hj8 m8 hK8 alc)
            | (go_at_call 12; refine (a7open (a := 0) (k := 120) D8.out M8.out.size OP8.out R8.out (by omega) (by simp) (by have := HE.out; have := HN16.out; have := ST8.out; have := LE8.out; omega) rfl rfl).mono ?_; rintro e w9 ⟨sb2, rfl, a9, m9⟩; have AT9 := Lib.hid a9; have X9 := Lib.hid m9; clear a9 m9)
            | (go_at_call 30; refine (a7len AT9.out (k := (K8 : Int)) (by have := HOF.out; simp only [List.length_nil]; omega)).mono ?_; rintro e w10 ⟨rfl, mm⟩; have AT10 := Lib.hid (AT9.out.nil mm); have X10 := Lib.hid (X9.out.trans mm); clear mm)
            | (go_at_call 30; refine (a7len AT10.out (k := (K8 : Int)) (by have := HOF.out; simp only [List.length_nil]; omega)).mono ?_; rintro e w11 ⟨rfl, mm⟩; have AT11 := Lib.hid (AT10.out.nil mm); have X11 := Lib.hid (X10.out.trans mm); clear mm)
            | (go_at_call 30; refine (a7len AT11.out (k := (K8 : Int)) (by have := HOF.out; simp only [List.length_nil]; omega)).mono ?_; rintro e w12 ⟨rfl, mm⟩; have AT12 := Lib.hid (AT11.out.nil mm); have X12 := Lib.hid (X11.out.trans mm); clear mm)
            | (go_at_call 30; refine (a7len AT12.out (k := (K8 : Int)) (by have := HOF.out; simp only [List.length_nil]; omega)).mono ?_; rintro e w13 ⟨rfl, mm⟩; have AT13 := Lib.hid (AT12.out.nil mm); have X13 := Lib.hid (X12.out.trans mm); clear mm)
            | (go_at_call 30; refine (a7len AT13.out (k := (K8 : Int)) (by have := HOF.out; simp only [List.length_nil]; omega)).mono ?_; rintro e w14 ⟨rfl, mm⟩; have AT14 := Lib.hid (AT13.out.nil mm); have X14 := Lib.hid (X13.out.trans mm); clear mm)
            | (go_at_call 31; refine (a7sure AT14.out (k := (K8 : Int)) (by have := HOF.out; omega)).mono ?_; rintro e w15 ⟨rfl, mm⟩; have ATF := Lib.hid (AT14.out.nil mm); have XF := Lib.hid (X14.out.trans mm); clear mm))
          have ALF := Lib.hid (ALC.out.nil XF.out)
          have MF := Lib.hid (M8.out.trans XF.out)
          have HRF : Hid ((old ++ with_ E ((news ++ [r.xs]).take j)).map (·.1) ++ [] = (R ++ [r.xs]).take K8) := Lib.hid (by rw [← HK8.out]; exact take_recs HR1.out)
          have HRL : Hid (((R ++ [r.xs]).take K8).length = K8) := Lib.hid (by have := congrArg List.length HRF.out; simp only [List.length_append, List.length_map, List.length_nil] at this; have h2 := HOF.out; simp only [List.length_append] at h2; omega)
          have HLF : Hid ((old ++ with_ E ((news ++ [r.xs]).take j)).length + ([] : List (List UInt8)).length = K8) := HOF
          have HUF : Hid (usedP (old ++ with_ E ((news ++ [r.xs]).take j)) + usedP (with_ E8 []) ≤ 4 * (i + 1)) := Lib.hid (by have := HU1.out; have := usedP_take E j (news ++ [r.xs]); rw [usedP_append]; show _ + 0 ≤ _; omega)
          have HEF : Hid (E8 ≤ i + 1 + 1) := Lib.hid (by have := HE.out; have := LE8.out; omega)
          have HKF : Hid (K8 ≤ i + 1) := Lib.hid (by have := HKK.out; have := HK1.out; omega)
          have HK17 : Hid (K8 ≤ 17) := Lib.hid (by have := HKF.out; have := HN16.out; omega)
          go_loopw [17] (fun x wr2 => ∃ (t : Nat), t ≤ K8 ∧ x = .int .i64 (t : Int) ∧ At7 wr2 w.heap.size sb2 db [] L8 [] (old ++ with_ E ((news ++ [r.xs]).take j)) ([]) E8 120 ∧ All7 wr2 w.heap.size A6 K8 K8 (strs ((R ++ [r.xs]).take K8)) ∧ Mods Nil w wr2) (fun x _ => K8 - (intOf x).toNat)
          case atStart => exact ⟨0, Nat.zero_le _, rfl, ATF.out, ALF.out, MF.out⟩
          case round =>
            clear ATF ALF MF
            obtain ⟨t, ht, rfl, hat, hal, hmo⟩ := hrel
            have HT := Lib.hid hat
            have HALT := Lib.hid hal
            have HMT := Lib.hid hmo
            clear hat hal hmo
            by_cases hltt : t < K8
            · have httI : (t : Int) < (K8 : Int) := by omega
              have hw8 : IntKind.i64.wrap ((t : Int) + 1) = (t : Int) + 1 := by rw [IntKind.wrap_i64]; have := HK17.out; omega
              obtain ⟨x, hx⟩ : ∃ x, (((R ++ [r.xs]).take K8))[t]? = some x := ⟨_, List.getElem?_eq_getElem (by rw [HRL.out]; exact hltt)⟩
              obtain ⟨q2, hq2⟩ : ∃ q, x.length = q := ⟨_, rfl⟩
              obtain ⟨ba, oa, rfl, hba, hca⟩ := HALT.out.sl.at_ (by rw [strs_length, HRL.out]; omega)
              have hcell2 := hca t _ (strs_at hx)
              have HRD := Lib.hid (a7read HT.out (k := t) (b := x) (by have := HLF.out; omega) (by rw [HRF.out, List.getD_eq_getElem?_getD, hx]; rfl) rfl)
              have HQ2 := Lib.hid hq2
              have HC2 := Lib.hid hcell2
              have HBA := Lib.hid hba
              clear hx hq2 hcell2 hca hba
              go_wp2_with (go_at_call 32; refine HRD.out.mono ?_; rintro e w20 ⟨A20, c20, m20, rfl, l20, s20, k20⟩; obtain rfl : q2 = m20 := HQ2.out.symm.trans l20; have S20 := Lib.hid s20; have K20 := Lib.hid k20; clear s20 k20 l20)
              have v1 := fun nq => conv7 HQ2.out (S20.out.drewN nq)
              have c1 := (World.cell?_of_block (K20.out.block ba HBA.out (fun h => h))).trans HC2.out
              go_quiet (fail)
              go_wp2_with fail
              exact ⟨⟨t + 1, by omega, by go_num, (HT.out.nil K20.out).nil ((Mods.refl Nil w20).drewN _), (HALT.out.nil K20.out).nil ((Mods.refl Nil w20).drewN _), (HMT.out.trans K20.out).drewN _⟩, by simp [intOf]; omega⟩
            · have hte : t = K8 := by omega
              clear hltt ht
              subst hte
              go_wp2_with fail
              exact ⟨⟨i + 1, sb2, E8, _, _, _, A6, _, t, t, _, by omega, rfl, rfl, rfl, rfl, by go_num, HT.out, HALT.out, HEF.out, HRF.out, HUF.out, HOF.out, HLF.out, HKF.out, HMT.out⟩, by simp [intOf]; omega⟩
        · have hu12B : (u12 == 4) = false := by simp; omega
          have HR1 : Hid (old.map (·.1) ++ (news ++ [r.xs]) = R ++ [r.xs]) := Lib.hid (by rw [← List.append_assoc, HR.out])
          have HO1 : Hid (old.length = o) := HO
          have HU1 := HU2
          have HL1 : Hid (old.length + (news ++ [r.xs]).length = K1) := Lib.hid (by have := HK1.out; have := HLEN.out; simp; omega)
          go_wp2_with (first
            | (go_at_call 14; refine HAP.out.mono ?_; rintro e w5 ⟨rfl, a5, m5⟩; have AT5 := Lib.hid a5; have M5 := Lib.hid (SM.nilTrans HMO.out (Nat.le_refl _) m5); have AL5 := Lib.hid (HAL.out.sm m5); have c5 := CFL.out _ M5.out; have cv5 := conv7 HQ.out (HROK.out.mods M5.out); clear a5 m5)
            | (at_builtin; refine wpList_append_all rfl _ _ rfl rfl (AL5.out.nil ((Mods.refl Nil w5).alloc (.cells #[.string (strOf r.xs)] 9))) rfl (one_sl _ _ _) (by have := HKK.out; have := HN16.out; omega) HK1.out (by have := M5.out.size; simp; omega) ?_; intro A6 c6 w6 al6 m6; rw [strs_snoc] at al6; have AT6 := Lib.hid ((AT5.out.nil ((Mods.refl Nil w5).alloc _)).sr m6); have AL6 := Lib.hid al6; have M6 := Lib.hid (sr_nil (M5.out.alloc _) m6); have cy6 := CFY.out _ M6.out; have cp6 := CFP.out _ M6.out; clear al6 m6)
            | (go_at_call 30; refine (a7len AT6.out (k := (K1 : Int)) (by have := HL1.out; omega)).mono ?_; rintro e w9 ⟨rfl, mm⟩; have AT9 := Lib.hid (AT6.out.nil mm); have X9 := Lib.hid mm; clear mm)
            | (go_at_call 31; refine (a7sure AT9.out (k := (o : Int)) (by have := HO1.out; omega)).mono ?_; rintro e w10 ⟨rfl, mm⟩; have ATF := Lib.hid (AT9.out.nil mm); have XF := Lib.hid (X9.out.trans mm); clear mm))
          have ALF := Lib.hid (AL6.out.nil XF.out)
          have MF := Lib.hid (M6.out.trans XF.out)
          have HOF := HO1
          have HRF := HR1
          have HLF := HL1
          have HUF := HU1
          have HRL : Hid ((R ++ [r.xs]).length = K1) := Lib.hid (by have := congrArg List.length HRF.out; have h2 := HLF.out; simp at this h2 ⊢; omega)
          have HEF : Hid (E ≤ i + 1 + 1) := Lib.hid (by have := HE.out; omega)
          have HKF : Hid (K1 ≤ i + 1) := Lib.hid (by have := HKK.out; have := HK1.out; omega)
          have HK17 : Hid (K1 ≤ 17) := Lib.hid (by have := HKF.out; have := HN16.out; omega)
          go_loopw [17] (fun x wr2 => ∃ (t : Nat), t ≤ K1 ∧ x = .int .i64 (t : Int) ∧ At7 wr2 w.heap.size sb db [] L [] (old) (news ++ [r.xs]) E 120 ∧ All7 wr2 w.heap.size A6 c6 K1 (strs (R ++ [r.xs])) ∧ Mods Nil w wr2) (fun x _ => K1 - (intOf x).toNat)
          case atStart => exact ⟨0, Nat.zero_le _, rfl, ATF.out, ALF.out, MF.out⟩
          case round =>
            clear ATF ALF MF
            obtain ⟨t, ht, rfl, hat, hal, hmo⟩ := hrel
            have HT := Lib.hid hat
            have HALT := Lib.hid hal
            have HMT := Lib.hid hmo
            clear hat hal hmo
            by_cases hltt : t < K1
            · have httI : (t : Int) < (K1 : Int) := by omega
              have hw8 : IntKind.i64.wrap ((t : Int) + 1) = (t : Int) + 1 := by rw [IntKind.wrap_i64]; have := HK17.out; omega
              obtain ⟨x, hx⟩ : ∃ x, ((R ++ [r.xs]))[t]? = some x := ⟨_, List.getElem?_eq_getElem (by rw [HRL.out]; exact hltt)⟩
              obtain ⟨q2, hq2⟩ : ∃ q, x.length = q := ⟨_, rfl⟩
              obtain ⟨ba, oa, rfl, hba, hca⟩ := HALT.out.sl.at_ (by rw [strs_length, HRL.out]; omega)
              have hcell2 := hca t _ (strs_at hx)
              have HRD := Lib.hid (a7read HT.out (k := t) (b := x) (by have := HLF.out; omega) (by rw [HRF.out, List.getD_eq_getElem?_getD, hx]; rfl) rfl)
              have HQ2 := Lib.hid hq2
              have HC2 := Lib.hid hcell2
              have HBA := Lib.hid hba
              clear hx hq2 hcell2 hca hba
              go_wp2_with (go_at_call 32; refine HRD.out.mono ?_; rintro e w20 ⟨A20, c20, m20, rfl, l20, s20, k20⟩; obtain rfl : q2 = m20 := HQ2.out.symm.trans l20; have S20 := Lib.hid s20; have K20 := Lib.hid k20; clear s20 k20 l20)
              have v1 := fun nq => conv7 HQ2.out (S20.out.drewN nq)
              have c1 := (World.cell?_of_block (K20.out.block ba HBA.out (fun h => h))).trans HC2.out
              go_quiet (fail)
              go_wp2_with fail
              exact ⟨⟨t + 1, by omega, by go_num, (HT.out.nil K20.out).nil ((Mods.refl Nil w20).drewN _), (HALT.out.nil K20.out).nil ((Mods.refl Nil w20).drewN _), (HMT.out.trans K20.out).drewN _⟩, by simp [intOf]; omega⟩
            · have hte : t = K1 := by omega
              clear hltt ht
              subst hte
              go_wp2_with fail
              exact ⟨⟨i + 1, sb, E, _, _, _, A6, _, t, o, _, by omega, rfl, rfl, rfl, rfl, by go_num, HT.out, HALT.out, HEF.out, HRF.out, HUF.out, HOF.out, HLF.out, HKF.out, HMT.out⟩, by simp [intOf]; omega⟩
    · obtain rfl : i = n := by omega
      go_wp2_with fail
      go_ret
      exact ⟨rfl, HMO.out⟩
end Go.Proofs.Ytgebcpfgihcoiaa
