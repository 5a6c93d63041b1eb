/- Texts laid as one: Srt6, Srt7, Srt8. -/
import Derived.Test.YtpabbhhaagfoeaaSrtM1

section
/- slices.Sort of numbers: partitionOrdered (printed by wip/tools/gensrt/part.py). -/
namespace Go.Proofs.Ytpabbhhaagfoeaa
set_option maxRecDepth 100000
open Go.RowKit
set_option linter.unusedVariables false
set_option linter.unusedSimpArgs false
open Go.Sort (scanUp scanDown partLoop partition ltInt swp)
theorem up_on {p : Int → Bool} {d : Array Int} {i j : Nat} (h : i ≤ j) (hp : p d[i]! = true) : scanUp p d j i = scanUp p d j (i + 1) := by
  rw [scanUp, if_pos (by simp [h, hp])]
theorem up_gt {p : Int → Bool} {d : Array Int} {i j : Nat} (h : j < i) : scanUp p d j i = i := by
  rw [scanUp, if_neg (by simp; omega)]
theorem up_stop {p : Int → Bool} {d : Array Int} {i j : Nat} (hp : p d[i]! = false) : scanUp p d j i = i := by
  rw [scanUp, if_neg (by simp [hp])]
theorem dn_on {p : Int → Bool} {d : Array Int} {i j : Nat} (h : i ≤ j + 1) (hp : p d[j + 1]! = true) : scanDown p d i (j + 1) = scanDown p d i j := by
  rw [scanDown, if_pos (by simp [h, hp])]
theorem dn_gt {p : Int → Bool} {d : Array Int} {i j : Nat} (h : j < i) : scanDown p d i j = j := by
  cases j with
  | zero => rfl
  | succ j => rw [scanDown, if_neg (by simp; omega)]
theorem dn_stop {p : Int → Bool} {d : Array Int} {i j : Nat} (hp : p d[j]! = false) : scanDown p d i j = j := by
  cases j with
  | zero => rfl
  | succ j => rw [scanDown, if_neg (by simp [hp])]
def upP (v : Int) : Int → Bool := fun x => ltInt x v
def dnP (v : Int) : Int → Bool := fun x => !ltInt x v
theorem part_gt {d d1 : Array Int} {a b1 p i j : Nat} {v : Int} (hd : swp d a p = d1) (hv : d1[a]! = v) (hi : scanUp (upP v) d1 b1 (a + 1) = i) (hj : scanDown (dnP v) d1 i b1 = j) (h : j < i) : partition ltInt d a (b1 + 1) p = (j, true, swp d1 j a) := by
  subst hd; subst hv
  simp only [partition, Nat.add_sub_cancel]
  rw [show scanUp (fun x => ltInt x (swp d a p)[a]!) (swp d a p) b1 (a + 1) = i from hi, show scanDown (fun x => !ltInt x (swp d a p)[a]!) (swp d a p) i b1 = j from hj, if_pos h]
theorem part_le {d d1 d2 : Array Int} {a b1 p i j : Nat} {v : Int} {r : Nat × Array Int} (hd : swp d a p = d1) (hv : d1[a]! = v) (hi : scanUp (upP v) d1 b1 (a + 1) = i) (hj : scanDown (dnP v) d1 i b1 = j) (h : i ≤ j) (h2 : swp d1 i j = d2) (hr : partLoop ltInt a (i + 1) (j - 1) d2 = r) : partition ltInt d a (b1 + 1) p = (r.1, false, swp r.2 r.1 a) := by
  subst hd; subst hv; subst h2; subst hr
  simp only [partition, Nat.add_sub_cancel]
  rw [show scanUp (fun x => ltInt x (swp d a p)[a]!) (swp d a p) b1 (a + 1) = i from hi, show scanDown (fun x => !ltInt x (swp d a p)[a]!) (swp d a p) i b1 = j from hj, if_neg (by omega)]
theorem pl_end {d : Array Int} {a i j i2 j2 : Nat} {v : Int} (hv : d[a]! = v) (hi : scanUp (upP v) d j i = i2) (hj : scanDown (dnP v) d i2 j = j2) (h : j2 < i2) : partLoop ltInt a i j d = (j2, d) := by
  subst hv
  rw [partLoop]
  rw [show scanUp (fun x => ltInt x d[a]!) d j i = i2 from hi]
  rw [show scanDown (fun x => !ltInt x d[a]!) d i2 j = j2 from hj, if_pos h]
theorem pl_on {d : Array Int} {a i j i2 j2 : Nat} {v : Int} (hv : d[a]! = v) (hi : scanUp (upP v) d j i = i2) (hj : scanDown (dnP v) d i2 j = j2) (h : i2 ≤ j2) (h1 : i ≤ i2) (h2 : j2 ≤ j) (h3 : 0 < j2) : partLoop ltInt a i j d = partLoop ltInt a (i2 + 1) (j2 - 1) (swp d i2 j2) := by
  subst hv
  rw [partLoop]
  rw [show scanUp (fun x => ltInt x d[a]!) d j i = i2 from hi]
  rw [show scanDown (fun x => !ltInt x d[a]!) d i2 j = j2 from hj, if_neg (by omega), dif_pos (by omega)]
theorem swp_self (d : Array Int) (i : Nat) : swp d i i = d := by
  unfold swp
  apply Array.ext_getElem?
  intro k
  simp only [Array.getElem?_setIfInBounds, Array.size_setIfInBounds]
  by_cases h : i = k
  · subst h
    by_cases hi : i < d.size
    · simp [hi]
    · simp [hi]
  · simp [h]
theorem swp_at {d : Array Int} {i j k : Nat} (hi : k ≠ i) (hj : k ≠ j) : (swp d i j)[k]! = d[k]! := by
  unfold swp
  rw [Go.Sort.getElem!_set_other _ _ _ _ hj, Go.Sort.getElem!_set_other _ _ _ _ hi]
def XTold (w : World) (d : Array Int) (a b p blk off n : Nat) (e : Ending) (w' : World) : Prop :=
  ∃ q f d', partition ltInt d a b p = (q, f, d') ∧ a ≤ q ∧ q < b ∧ e = .returned (.tuple #[.int .i64 (q : Int), .bool f]) ∧ d'.size = n ∧ Rw w w' blk off d'
theorem spart_any (w : World) {blk off cap a b1 p n : Nat} {d : Array Int} (hR : Rw w w blk off d) (hn : d.size = n) (hap : a < p) (hp : p ≤ b1) (hb : b1 + 1 ≤ n) (hsz : n < 4611686018427387904) :
    Calls Try.prog 74 #[.slice (some ⟨blk, off, none⟩) n cap, .int .i64 (a : Int), .int .i64 ((b1 + 1 : Nat) : Int), .int .i64 (p : Int)] w (XTold w d a (b1 + 1) p blk off n) := by
  obtain ⟨v, hv⟩ : ∃ v, d[p]! = v := ⟨_, rfl⟩
  obtain ⟨z, hz⟩ : ∃ z, d[a]! = z := ⟨_, rfl⟩
  have h1 := hR.cell (j := p) (by omega)
  have h2 := hR.cell (j := a) (by omega)
  have f1 := hR.froz (j := p) (by omega)
  have f2 := hR.froz (j := a) (by omega)
  rw [hv] at h1
  rw [hz] at h2
  obtain ⟨d1, hd1⟩ : ∃ d1, swp d a p = d1 := ⟨_, rfl⟩
  have HD1 := Lib.hid hd1
  have HV : Hid (d1[a]! = v) := Lib.hid (by subst hd1; subst hv; unfold swp; rw [Go.Sort.getElem!_set_other _ _ _ _ (by omega), Go.Sort.getElem!_set_same _ _ _ (by omega)])
  have HS1 : Hid (d1.size = n) := Lib.hid (by rw [← hd1, swp_size]; exact hn)
  have HR1 : Hid (Rw w (((w.setCell ⟨blk, off + a, none⟩ (.int .u64 v)).setCell ⟨blk, off + p, none⟩ (.int .u64 z)).drew) blk off d1) := Lib.hid (by rw [← hd1]; exact (hR.swp (by omega) (by omega) hv hz).drew)
  clear hR hn hv hz hd1
  go_enter Try.func74, Try.ntmps74
  go_wp2
  go_region
  go_wp2
  go_loopw [10] (fun ui wr => ∃ i : Nat, ui = .int .i64 (i : Int) ∧ a < i ∧ i ≤ b1 + 1 ∧ Hid (Rw w wr blk off d1) ∧ Hid (scanUp (upP v) d1 b1 i = scanUp (upP v) d1 b1 (a + 1))) (fun ui _ => b1 + 2 - (intOf ui).toNat)
  case atStart => exact ⟨a + 1, by go_num, by omega, by omega, HR1, Lib.hid rfl⟩
  case round =>
    obtain ⟨i, rfl, hai, hib, HK, HO⟩ := hrel
    obtain ⟨w1, hwo⟩ : ∃ x, x = wr := ⟨_, rfl⟩
    subst hwo
    clear h1 h2 f1 f2
    by_cases hg : i ≤ b1
    · have hd : decide ((i : Int) ≤ (b1 : Int)) = true := by simp; omega
      obtain ⟨x, hx⟩ : ∃ x, d1[i]! = x := ⟨_, rfl⟩
      have HX := Lib.hid hx
      have c2 := HK.out.cell (j := i) (by rw [HS1.out]; omega)
      have k2 := HK.out.froz (j := i) (by rw [HS1.out]; omega)
      rw [hx] at c2
      clear hx
      have c1 := HK.out.cell (j := a) (by rw [HS1.out]; omega)
      have k1 := HK.out.froz (j := a) (by rw [HS1.out]; omega)
      rw [HV.out] at c1
      go_wp2
      go_quiet ((go_at_call 72; exact (sless_any _ _ _).mono fun _ _ h => ⟨h.1, _, h.2⟩))
      cases hl : ltInt x v with
      | true =>
        go_wp2
        exact ⟨⟨i + 1, by go_num, by omega, by omega, Lib.hid (HK.out.drewN _), Lib.hid ((up_on hg (by show ltInt _ v = true; rw [HX.out]; exact hl)).symm.trans HO.out)⟩, by simp [intOf]; omega⟩
      | false =>
        have HI : Hid (scanUp (upP v) d1 b1 (a + 1) = i) := Lib.hid (by rw [← HO.out]; exact up_stop (by show ltInt _ v = false; rw [HX.out]; exact hl))
        have HL : Hid (ltInt d1[i]! v = false) := Lib.hid (by rw [HX.out]; exact hl)
        clear c1 k1 c2 k2 hl
        go_wp2
        go_loopw [11] (fun uj wr => ∃ j : Nat, uj = .int .i64 (j : Int) ∧ a ≤ j ∧ j ≤ b1 ∧ Hid (Rw w wr blk off d1) ∧ Hid (scanDown (dnP v) d1 i j = scanDown (dnP v) d1 i b1)) (fun uj _ => (intOf uj).toNat)
        case atStart => exact ⟨b1, by go_num, by omega, Nat.le_refl _, Lib.hid (HK.out.drewN _), Lib.hid rfl⟩
        case round =>
          obtain ⟨j, rfl, haj, hjb, HJ, HO2⟩ := hrel
          by_cases hg2 : i ≤ j
          · obtain ⟨g, rfl⟩ : ∃ g, j = g + 1 := ⟨j - 1, by omega⟩
            have hd2 : decide ((i : Int) ≤ (g : Int) + 1) = true := by simp; omega
            obtain ⟨y, hy⟩ : ∃ y, d1[g + 1]! = y := ⟨_, rfl⟩
            have HY := Lib.hid hy
            have c2 := HJ.out.cell (j := g + 1) (by rw [HS1.out]; omega)
            have k2 := HJ.out.froz (j := g + 1) (by rw [HS1.out]; omega)
            rw [hy] at c2
            clear hy
            have c1 := HJ.out.cell (j := a) (by rw [HS1.out]; omega)
            have k1 := HJ.out.froz (j := a) (by rw [HS1.out]; omega)
            rw [HV.out] at c1
            go_wp2
            go_quiet ((go_at_call 72; exact (sless_any _ _ _).mono fun _ _ h => ⟨h.1, _, h.2⟩))
            cases hl2 : ltInt y v with
            | false =>
              go_wp2
              exact ⟨⟨g, rfl, by omega, by omega, Lib.hid (HJ.out.drewN _), Lib.hid ((dn_on hg2 (by show (!ltInt _ v) = true; rw [HY.out, hl2]; rfl)).symm.trans HO2.out)⟩, by simp [intOf]⟩
            | true =>
              have hij : i < g + 1 := by rcases Nat.lt_or_eq_of_le hg2 with h | h; exact h; exfalso; have e1 := HL.out; rw [h, HY.out, hl2] at e1; cases e1
              have HJE : Hid (scanDown (dnP v) d1 i b1 = g + 1) := Lib.hid (by rw [← HO2.out]; exact dn_stop (by show (!ltInt _ v) = false; rw [HY.out, hl2]; rfl))
              have hgt : ¬ (g + 1 < i) := by omega
              obtain ⟨d2, hd2e⟩ : ∃ d2, swp d1 i (g + 1) = d2 := ⟨_, rfl⟩
              have HD2 := Lib.hid hd2e
              clear hd2e hl2
              have c3 := HJ.out.cell (j := i) (by rw [HS1.out]; omega)
              have k3 := HJ.out.froz (j := i) (by rw [HS1.out]; omega)
              rw [HX.out] at c3
              go_wp2
              go_region
              go_wp2
              go_loopw [10, 11] (fun ui uj wr => ∃ (i3 j3 : Nat) (dk : Array Int), ui = .int .i64 (i3 : Int) ∧ uj = .int .i64 (j3 : Int) ∧ a + 1 < i3 ∧ a < j3 ∧ i3 ≤ j3 + 1 ∧ j3 ≤ b1 ∧ Hid (dk.size = n) ∧ Hid (dk[a]! = v) ∧ Hid (Rw w wr blk off dk) ∧ Hid (partLoop ltInt a i3 j3 dk = partLoop ltInt a (i + 1) g d2)) (fun _ uj _ => (intOf uj).toNat)
              case atStart =>
                exact ⟨i + 1, g, d2, by go_num, by go_num, by omega, by omega, by omega, by omega, Lib.hid (by rw [← HD2.out, swp_size]; exact HS1.out), Lib.hid (by rw [← HD2.out, swp_at (by omega) (by omega)]; exact HV.out), Lib.hid (by rw [← HD2.out]; exact (HJ.out.drewN _).swp (by rw [HS1.out]; omega) (by rw [HS1.out]; omega) HY.out HX.out), Lib.hid rfl⟩
              case round =>
                obtain ⟨i3, j3, dk, rfl, rfl, hai3, haj3, hij3, hjb3, HSK, HVK, HK3, HP⟩ := hrel
                obtain ⟨w3, hwo⟩ : ∃ x, x = wr := ⟨_, rfl⟩
                subst hwo
                go_wp2
                go_loopw [10] (fun ui wr => ∃ i4 : Nat, ui = .int .i64 (i4 : Int) ∧ i3 ≤ i4 ∧ i4 ≤ j3 + 1 ∧ Hid (Rw w wr blk off dk) ∧ Hid (scanUp (upP v) dk j3 i4 = scanUp (upP v) dk j3 i3)) (fun ui _ => b1 + 2 - (intOf ui).toNat)
                case atStart => exact ⟨i3, rfl, Nat.le_refl _, by omega, HK3, Lib.hid rfl⟩
                case round =>
                  obtain ⟨i4, rfl, hi34, hi4, H4, HO4⟩ := hrel
                  obtain ⟨w4, hwo⟩ : ∃ x, x = wr := ⟨_, rfl⟩
                  subst hwo
                  by_cases hg4 : i4 ≤ j3
                  · have hd4 : decide ((i4 : Int) ≤ (j3 : Int)) = true := by simp; omega
                    obtain ⟨x4, hx4⟩ : ∃ x4, dk[i4]! = x4 := ⟨_, rfl⟩
                    have HX4 := Lib.hid hx4
                    have c4 := H4.out.cell (j := i4) (by rw [HSK.out]; omega)
                    have k4 := H4.out.froz (j := i4) (by rw [HSK.out]; omega)
                    rw [hx4] at c4
                    clear hx4
                    have c3 := H4.out.cell (j := a) (by rw [HSK.out]; omega)
                    have k3 := H4.out.froz (j := a) (by rw [HSK.out]; omega)
                    rw [HVK.out] at c3
                    go_wp2
                    go_quiet ((go_at_call 72; exact (sless_any _ _ _).mono fun _ _ h => ⟨h.1, _, h.2⟩))
                    cases hl4 : ltInt x4 v with
                    | true =>
                      go_wp2
                      exact ⟨⟨i4 + 1, by go_num, by omega, by omega, Lib.hid (H4.out.drewN _), Lib.hid ((up_on hg4 (by show ltInt _ v = true; rw [HX4.out]; exact hl4)).symm.trans HO4.out)⟩, by simp [intOf]; omega⟩
                    | false =>
                      have HI4 : Hid (scanUp (upP v) dk j3 i3 = i4) := Lib.hid (by rw [← HO4.out]; exact up_stop (by show ltInt _ v = false; rw [HX4.out]; exact hl4))
                      have HL4 : Hid (ltInt dk[i4]! v = false) := Lib.hid (by rw [HX4.out]; exact hl4)
                      clear c3 k3 c4 k4 hl4
                      go_wp2
                      go_loopw [11] (fun uj wr => ∃ j5 : Nat, uj = .int .i64 (j5 : Int) ∧ a < j5 ∧ j5 ≤ j3 ∧ Hid (Rw w wr blk off dk) ∧ Hid (scanDown (dnP v) dk i4 j5 = scanDown (dnP v) dk i4 j3)) (fun uj _ => (intOf uj).toNat)
                      case atStart => exact ⟨j3, rfl, by omega, Nat.le_refl _, Lib.hid (H4.out.drewN _), Lib.hid rfl⟩
                      case round =>
                        obtain ⟨j5, rfl, haj5, hj5, HJ5, HO5⟩ := hrel
                        by_cases hg5 : i4 ≤ j5
                        · obtain ⟨g5, rfl⟩ : ∃ g5, j5 = g5 + 1 := ⟨j5 - 1, by omega⟩
                          have hd5 : decide ((i4 : Int) ≤ (g5 : Int) + 1) = true := by simp; omega
                          obtain ⟨y5, hy5⟩ : ∃ y5, dk[g5 + 1]! = y5 := ⟨_, rfl⟩
                          have HY5 := Lib.hid hy5
                          have c5 := HJ5.out.cell (j := g5 + 1) (by rw [HSK.out]; omega)
                          have k5 := HJ5.out.froz (j := g5 + 1) (by rw [HSK.out]; omega)
                          rw [hy5] at c5
                          clear hy5
                          have c6 := HJ5.out.cell (j := a) (by rw [HSK.out]; omega)
                          have k6 := HJ5.out.froz (j := a) (by rw [HSK.out]; omega)
                          rw [HVK.out] at c6
                          go_wp2
                          go_quiet ((go_at_call 72; exact (sless_any _ _ _).mono fun _ _ h => ⟨h.1, _, h.2⟩))
                          cases hl5 : ltInt y5 v with
                          | false =>
                            go_wp2
                            exact ⟨⟨g5, rfl, by omega, by omega, Lib.hid (HJ5.out.drewN _), Lib.hid ((dn_on hg5 (by show (!ltInt _ v) = true; rw [HY5.out, hl5]; rfl)).symm.trans HO5.out)⟩, by simp [intOf]⟩
                          | true =>
                            have hij4 : i4 < g5 + 1 := by rcases Nat.lt_or_eq_of_le hg5 with h | h; exact h; exfalso; have e1 := HL4.out; rw [h, HY5.out, hl5] at e1; cases e1
                            have HJE5 : Hid (scanDown (dnP v) dk i4 j3 = g5 + 1) := Lib.hid (by rw [← HO5.out]; exact dn_stop (by show (!ltInt _ v) = false; rw [HY5.out, hl5]; rfl))
                            have HPO := Lib.hid (pl_on HVK.out HI4.out HJE5.out (Nat.le_of_lt hij4) hi34 hj5 (Nat.succ_pos _))
                            have hgt : ¬ (g5 + 1 < i4) := by omega
                            obtain ⟨x5, hx5⟩ : ∃ x5, dk[i4]! = x5 := ⟨_, rfl⟩
                            have HX5 := Lib.hid hx5
                            have c7 := HJ5.out.cell (j := i4) (by rw [HSK.out]; omega)
                            have k7 := HJ5.out.froz (j := i4) (by rw [HSK.out]; omega)
                            rw [hx5] at c7
                            clear hx5
                            go_wp2
                            go_region
                            go_wp2
                            refine ⟨⟨i4 + 1, g5, swp dk i4 (g5 + 1), by go_num, by go_num, by omega, by omega, by omega, by omega, Lib.hid (by rw [swp_size]; exact HSK.out), Lib.hid (by rw [swp_at (by omega) (by omega)]; exact HVK.out), Lib.hid ((HJ5.out.drewN _).swp (by rw [HSK.out]; omega) (by rw [HSK.out]; omega) HY5.out HX5.out), Lib.hid ?_⟩, by simp [intOf]; try omega⟩
                            have h3 := HPO.out
                            rw [Nat.add_sub_cancel, HP.out] at h3
                            exact h3.symm
                        · have hlt5 : j5 < i4 := by omega
                          have hd5 : decide ((i4 : Int) ≤ (j5 : Int)) = false := by simp; omega
                          have HJE5 : Hid (scanDown (dnP v) dk i4 j3 = j5) := Lib.hid (by rw [← HO5.out]; exact dn_gt hlt5)
                          go_wp2
                          go_quiet (fail)
                          have HPE : Hid (partLoop ltInt a (i + 1) (g + 1 - 1) d2 = (j5, dk)) := Lib.hid (by rw [Nat.add_sub_cancel, ← HP.out]; exact pl_end HVK.out HI4.out HJE5.out hlt5)
                          have HF := Lib.hid (part_le HD1.out HV.out HI.out HJE.out (Nat.le_of_lt hij) HD2.out HPE.out)
                          have c1 := HJ5.out.cell (j := a) (by rw [HSK.out]; omega)
                          have k1 := HJ5.out.froz (j := a) (by rw [HSK.out]; omega)
                          rw [HVK.out] at c1
                          obtain ⟨yy, hyy⟩ : ∃ yy, dk[j5]! = yy := ⟨_, rfl⟩
                          have HYY := Lib.hid hyy
                          have c2 := HJ5.out.cell (j := j5) (by rw [HSK.out]; omega)
                          have k2 := HJ5.out.froz (j := j5) (by rw [HSK.out]; omega)
                          rw [hyy] at c2
                          clear hyy
                          go_wp2
                          go_region
                          go_wp2
                          go_ret2
                          exact ⟨j5, false, swp dk j5 a, HF.out, by omega, by omega, rfl, by rw [swp_size]; exact HSK.out, (HJ5.out.drewN _).swp (by rw [HSK.out]; omega) (by rw [HSK.out]; omega) HVK.out HYY.out⟩
                  · have hd4 : decide ((i4 : Int) ≤ (j3 : Int)) = false := by simp; omega
                    have HI4 : Hid (scanUp (upP v) dk j3 i3 = i4) := Lib.hid (by rw [← HO4.out]; exact up_gt (by omega))
                    go_wp2
                    go_quiet (fail)
                    go_wp2
                    go_loopw [11] (fun uj wr => ∃ j5 : Nat, uj = .int .i64 (j5 : Int) ∧ a < j5 ∧ j5 ≤ j3 ∧ Hid (Rw w wr blk off dk) ∧ Hid (scanDown (dnP v) dk i4 j5 = scanDown (dnP v) dk i4 j3)) (fun uj _ => (intOf uj).toNat)
                    case atStart => exact ⟨j3, rfl, by omega, Nat.le_refl _, Lib.hid (H4.out.drewN _), Lib.hid rfl⟩
                    case round =>
                      obtain ⟨j5, rfl, haj5, hj5, HJ5, HO5⟩ := hrel
                      by_cases hg5 : i4 ≤ j5
                      · exact absurd hg5 (by omega)
                      · have hlt5 : j5 < i4 := by omega
                        have hd5 : decide ((i4 : Int) ≤ (j5 : Int)) = false := by simp; omega
                        have HJE5 : Hid (scanDown (dnP v) dk i4 j3 = j5) := Lib.hid (by rw [← HO5.out]; exact dn_gt hlt5)
                        go_wp2
                        go_quiet (fail)
                        have HPE : Hid (partLoop ltInt a (i + 1) (g + 1 - 1) d2 = (j5, dk)) := Lib.hid (by rw [Nat.add_sub_cancel, ← HP.out]; exact pl_end HVK.out HI4.out HJE5.out hlt5)
                        have HF := Lib.hid (part_le HD1.out HV.out HI.out HJE.out (Nat.le_of_lt hij) HD2.out HPE.out)
                        have c1 := HJ5.out.cell (j := a) (by rw [HSK.out]; omega)
                        have k1 := HJ5.out.froz (j := a) (by rw [HSK.out]; omega)
                        rw [HVK.out] at c1
                        obtain ⟨yy, hyy⟩ : ∃ yy, dk[j5]! = yy := ⟨_, rfl⟩
                        have HYY := Lib.hid hyy
                        have c2 := HJ5.out.cell (j := j5) (by rw [HSK.out]; omega)
                        have k2 := HJ5.out.froz (j := j5) (by rw [HSK.out]; omega)
                        rw [hyy] at c2
                        clear hyy
                        go_wp2
                        go_region
                        go_wp2
                        go_ret2
                        exact ⟨j5, false, swp dk j5 a, HF.out, by omega, by omega, rfl, by rw [swp_size]; exact HSK.out, (HJ5.out.drewN _).swp (by rw [HSK.out]; omega) (by rw [HSK.out]; omega) HVK.out HYY.out⟩
          · have hlt : j < i := by omega
            have hd2 : decide ((i : Int) ≤ (j : Int)) = false := by simp; omega
            have HJE : Hid (scanDown (dnP v) d1 i b1 = j) := Lib.hid (by rw [← HO2.out]; exact dn_gt hlt)
            go_wp2
            go_quiet (fail)
            have HF := Lib.hid (part_gt HD1.out HV.out HI.out HJE.out hlt)
            by_cases hja : j = a
            · subst hja
              have c1 := HJ.out.cell (j := j) (by rw [HS1.out]; omega)
              have k1 := HJ.out.froz (j := j) (by rw [HS1.out]; omega)
              rw [HV.out] at c1
              go_wp2
              go_region
              go_wp2
              go_ret2
              exact ⟨j, true, swp d1 j j, HF.out, by omega, by omega, rfl, by rw [swp_size]; exact HS1.out, (HJ.out.drewN _).swp (by rw [HS1.out]; omega) (by rw [HS1.out]; omega) HV.out HV.out⟩
            · have hja2 : a < j := by omega
              have c1 := HJ.out.cell (j := a) (by rw [HS1.out]; omega)
              have k1 := HJ.out.froz (j := a) (by rw [HS1.out]; omega)
              rw [HV.out] at c1
              obtain ⟨yy, hyy⟩ : ∃ yy, d1[j]! = yy := ⟨_, rfl⟩
              have HYY := Lib.hid hyy
              have c2 := HJ.out.cell (j := j) (by rw [HS1.out]; omega)
              have k2 := HJ.out.froz (j := j) (by rw [HS1.out]; omega)
              rw [hyy] at c2
              clear hyy
              go_wp2
              go_region
              go_wp2
              go_ret2
              exact ⟨j, true, swp d1 j a, HF.out, by omega, by omega, rfl, by rw [swp_size]; exact HS1.out, (HJ.out.drewN _).swp (by rw [HS1.out]; omega) (by rw [HS1.out]; omega) HV.out HYY.out⟩
    · have hd : decide ((i : Int) ≤ (b1 : Int)) = false := by simp; omega
      have HI : Hid (scanUp (upP v) d1 b1 (a + 1) = i) := Lib.hid (by rw [← HO.out]; exact up_gt (by omega))
      go_wp2
      go_quiet (fail)
      go_wp2
      go_loopw [11] (fun uj wr => ∃ j : Nat, uj = .int .i64 (j : Int) ∧ a ≤ j ∧ j ≤ b1 ∧ Hid (Rw w wr blk off d1) ∧ Hid (scanDown (dnP v) d1 i j = scanDown (dnP v) d1 i b1)) (fun uj _ => (intOf uj).toNat)
      case atStart => exact ⟨b1, by go_num, by omega, Nat.le_refl _, Lib.hid (HK.out.drewN _), Lib.hid rfl⟩
      case round =>
        obtain ⟨j, rfl, haj, hjb, HJ, HO2⟩ := hrel
        by_cases hg2 : i ≤ j
        · exact absurd hg2 (by omega)
        · have hlt : j < i := by omega
          have hd2 : decide ((i : Int) ≤ (j : Int)) = false := by simp; omega
          have HJE : Hid (scanDown (dnP v) d1 i b1 = j) := Lib.hid (by rw [← HO2.out]; exact dn_gt hlt)
          go_wp2
          go_quiet (fail)
          have HF := Lib.hid (part_gt HD1.out HV.out HI.out HJE.out hlt)
          by_cases hja : j = a
          · subst hja
            have c1 := HJ.out.cell (j := j) (by rw [HS1.out]; omega)
            have k1 := HJ.out.froz (j := j) (by rw [HS1.out]; omega)
            rw [HV.out] at c1
            go_wp2
            go_region
            go_wp2
            go_ret2
            exact ⟨j, true, swp d1 j j, HF.out, by omega, by omega, rfl, by rw [swp_size]; exact HS1.out, (HJ.out.drewN _).swp (by rw [HS1.out]; omega) (by rw [HS1.out]; omega) HV.out HV.out⟩
          · have hja2 : a < j := by omega
            have c1 := HJ.out.cell (j := a) (by rw [HS1.out]; omega)
            have k1 := HJ.out.froz (j := a) (by rw [HS1.out]; omega)
            rw [HV.out] at c1
            obtain ⟨yy, hyy⟩ : ∃ yy, d1[j]! = yy := ⟨_, rfl⟩
            have HYY := Lib.hid hyy
            have c2 := HJ.out.cell (j := j) (by rw [HS1.out]; omega)
            have k2 := HJ.out.froz (j := j) (by rw [HS1.out]; omega)
            rw [hyy] at c2
            clear hyy
            go_wp2
            go_region
            go_wp2
            go_ret2
            exact ⟨j, true, swp d1 j a, HF.out, by omega, by omega, rfl, by rw [swp_size]; exact HS1.out, (HJ.out.drewN _).swp (by rw [HS1.out]; omega) (by rw [HS1.out]; omega) HV.out HYY.out⟩
end Go.Proofs.Ytpabbhhaagfoeaa
end

section
/- slices.Sort of numbers: partitionEqualOrdered (printed by wip/tools/gensrt/parteq.py). -/
namespace Go.Proofs.Ytpabbhhaagfoeaa
set_option maxRecDepth 100000
open Go.RowKit
set_option linter.unusedVariables false
set_option linter.unusedSimpArgs false
open Go.Sort (scanUp scanDown partEqLoop partitionEqual ltInt swp)
def upE (v : Int) : Int → Bool := fun x => !ltInt v x
def dnE (v : Int) : Int → Bool := fun x => ltInt v x
theorem pe_end {d : Array Int} {a i j i2 j2 : Nat} {v : Int} (hv : d[a]! = v) (hi : scanUp (upE v) d j i = i2) (hj : scanDown (dnE v) d i2 j = j2) (h : j2 < i2) : partEqLoop ltInt a i j d = (i2, d) := by
  subst hv
  rw [partEqLoop]
  rw [show scanUp (fun x => !ltInt d[a]! x) d j i = i2 from hi]
  rw [show scanDown (fun x => ltInt d[a]! x) d i2 j = j2 from hj, if_pos h]
theorem pe_on {d : Array Int} {a i j i2 j2 : Nat} {v : Int} (hv : d[a]! = v) (hi : scanUp (upE v) d j i = i2) (hj : scanDown (dnE v) d i2 j = j2) (h : i2 ≤ j2) (h1 : i ≤ i2) (h2 : j2 ≤ j) (h3 : 0 < j2) : partEqLoop ltInt a i j d = partEqLoop ltInt a (i2 + 1) (j2 - 1) (swp d i2 j2) := by
  subst hv
  rw [partEqLoop]
  rw [show scanUp (fun x => !ltInt d[a]! x) d j i = i2 from hi]
  rw [show scanDown (fun x => ltInt d[a]! x) d i2 j = j2 from hj, if_neg (by omega), dif_pos (by omega)]
def ETold (w : World) (d : Array Int) (a b p blk off n : Nat) (e : Ending) (w' : World) : Prop :=
  ∃ q d', partitionEqual ltInt d a b p = (q, d') ∧ a < q ∧ q ≤ b ∧ e = .returned (.int .i64 (q : Int)) ∧ d'.size = n ∧ Rw w w' blk off d'
theorem speq_any (w : World) {blk off cap a b1 p n : Nat} {d : Array Int} (hR : Rw w w blk off d) (hn : d.size = n) (hap : a < p) (hp : p ≤ b1) (hb : b1 + 1 ≤ n) (hsz : n < 4611686018427387904) :
    Calls Try.prog 73 #[.slice (some ⟨blk, off, none⟩) n cap, .int .i64 (a : Int), .int .i64 ((b1 + 1 : Nat) : Int), .int .i64 (p : Int)] w (ETold w d a (b1 + 1) p blk off n) := by
  obtain ⟨v, hv⟩ : ∃ v, d[p]! = v := ⟨_, rfl⟩
  obtain ⟨z, hz⟩ : ∃ z, d[a]! = z := ⟨_, rfl⟩
  have h1 := hR.cell (j := p) (by omega)
  have h2 := hR.cell (j := a) (by omega)
  have f1 := hR.froz (j := p) (by omega)
  have f2 := hR.froz (j := a) (by omega)
  rw [hv] at h1
  rw [hz] at h2
  obtain ⟨d1, hd1⟩ : ∃ d1, swp d a p = d1 := ⟨_, rfl⟩
  have HD1 : Hid (partEqLoop ltInt a (a + 1) b1 d1 = partitionEqual ltInt d a (b1 + 1) p) := Lib.hid (by rw [← hd1]; rfl)
  have HV : Hid (d1[a]! = v) := Lib.hid (by subst hd1; subst hv; unfold swp; rw [Go.Sort.getElem!_set_other _ _ _ _ (by omega), Go.Sort.getElem!_set_same _ _ _ (by omega)])
  have HS1 : Hid (d1.size = n) := Lib.hid (by rw [← hd1, swp_size]; exact hn)
  have HR1 : Hid (Rw w (((w.setCell ⟨blk, off + a, none⟩ (.int .u64 v)).setCell ⟨blk, off + p, none⟩ (.int .u64 z)).drew) blk off d1) := Lib.hid (by rw [← hd1]; exact (hR.swp (by omega) (by omega) hv hz).drew)
  clear hR hn hv hz hd1
  go_enter Try.func73, Try.ntmps73
  go_wp2
  go_region
  go_wp2
  go_loopw [9, 10] (fun ui uj wr => ∃ (i3 j3 : Nat) (dk : Array Int), ui = .int .i64 (i3 : Int) ∧ uj = .int .i64 (j3 : Int) ∧ a < i3 ∧ a < j3 ∧ i3 ≤ j3 + 1 ∧ j3 ≤ b1 ∧ Hid (dk.size = n) ∧ Hid (dk[a]! = v) ∧ Hid (Rw w wr blk off dk) ∧ Hid (partEqLoop ltInt a i3 j3 dk = partEqLoop ltInt a (a + 1) b1 d1)) (fun _ uj _ => (intOf uj).toNat)
  case atStart =>
    exact ⟨a + 1, b1, d1, by go_num, by go_num, by omega, by omega, by omega, by omega, HS1, HV, HR1, Lib.hid rfl⟩
  case round =>
    obtain ⟨i3, j3, dk, rfl, rfl, hai3, haj3, hij3, hjb3, HSK, HVK, HK3, HP⟩ := hrel
    clear h1 h2 f1 f2
    obtain ⟨w3, hwo⟩ : ∃ x, x = wr := ⟨_, rfl⟩
    subst hwo
    go_wp2
    go_loopw [9] (fun ui wr => ∃ i4 : Nat, ui = .int .i64 (i4 : Int) ∧ i3 ≤ i4 ∧ i4 ≤ j3 + 1 ∧ Hid (Rw w wr blk off dk) ∧ Hid (scanUp (upE v) dk j3 i4 = scanUp (upE v) dk j3 i3)) (fun ui _ => b1 + 2 - (intOf ui).toNat)
    case atStart => exact ⟨i3, rfl, Nat.le_refl _, by omega, HK3, Lib.hid rfl⟩
    case round =>
      obtain ⟨i4, rfl, hi34, hi4, H4, HO4⟩ := hrel
      obtain ⟨w4, hwo⟩ : ∃ x, x = wr := ⟨_, rfl⟩
      subst hwo
      by_cases hg4 : i4 ≤ j3
      · have hd4 : decide ((i4 : Int) ≤ (j3 : Int)) = true := by simp; omega
        obtain ⟨x4, hx4⟩ : ∃ x4, dk[i4]! = x4 := ⟨_, rfl⟩
        have HX4 := Lib.hid hx4
        have c4 := H4.out.cell (j := i4) (by rw [HSK.out]; omega)
        have k4 := H4.out.froz (j := i4) (by rw [HSK.out]; omega)
        rw [hx4] at c4
        clear hx4
        have c3 := H4.out.cell (j := a) (by rw [HSK.out]; omega)
        have k3 := H4.out.froz (j := a) (by rw [HSK.out]; omega)
        rw [HVK.out] at c3
        go_wp2
        go_quiet ((go_at_call 72; exact (sless_any _ _ _).mono fun _ _ h => ⟨h.1, _, h.2⟩))
        cases hl4 : ltInt v x4 with
        | false =>
          go_wp2
          exact ⟨⟨i4 + 1, by go_num, by omega, by omega, Lib.hid (H4.out.drewN _), Lib.hid ((up_on hg4 (by show (!ltInt v _) = true; rw [HX4.out, hl4]; rfl)).symm.trans HO4.out)⟩, by simp [intOf]; omega⟩
        | true =>
          have HI4 : Hid (scanUp (upE v) dk j3 i3 = i4) := Lib.hid (by rw [← HO4.out]; exact up_stop (by show (!ltInt v _) = false; rw [HX4.out, hl4]; rfl))
          have HL4 : Hid (ltInt v dk[i4]! = true) := Lib.hid (by rw [HX4.out]; exact hl4)
          clear c3 k3 c4 k4 hl4
          go_wp2
          go_loopw [10] (fun uj wr => ∃ j5 : Nat, uj = .int .i64 (j5 : Int) ∧ a ≤ j5 ∧ j5 ≤ j3 ∧ Hid (Rw w wr blk off dk) ∧ Hid (scanDown (dnE v) dk i4 j5 = scanDown (dnE v) dk i4 j3)) (fun uj _ => (intOf uj).toNat)
          case atStart => exact ⟨j3, rfl, by omega, Nat.le_refl _, Lib.hid (H4.out.drewN _), Lib.hid rfl⟩
          case round =>
            obtain ⟨j5, rfl, haj5, hj5, HJ5, HO5⟩ := hrel
            by_cases hg5 : i4 ≤ j5
            · obtain ⟨g5, rfl⟩ : ∃ g5, j5 = g5 + 1 := ⟨j5 - 1, by omega⟩
              have hd5 : decide ((i4 : Int) ≤ (g5 : Int) + 1) = true := by simp; omega
              obtain ⟨y5, hy5⟩ : ∃ y5, dk[g5 + 1]! = y5 := ⟨_, rfl⟩
              have HY5 := Lib.hid hy5
              have c5 := HJ5.out.cell (j := g5 + 1) (by rw [HSK.out]; omega)
              have k5 := HJ5.out.froz (j := g5 + 1) (by rw [HSK.out]; omega)
              rw [hy5] at c5
              clear hy5
              have c6 := HJ5.out.cell (j := a) (by rw [HSK.out]; omega)
              have k6 := HJ5.out.froz (j := a) (by rw [HSK.out]; omega)
              rw [HVK.out] at c6
              go_wp2
              go_quiet ((go_at_call 72; exact (sless_any _ _ _).mono fun _ _ h => ⟨h.1, _, h.2⟩))
              cases hl5 : ltInt v y5 with
              | true =>
                go_wp2
                exact ⟨⟨g5, rfl, by omega, by omega, Lib.hid (HJ5.out.drewN _), Lib.hid ((dn_on hg5 (by show ltInt v _ = true; rw [HY5.out, hl5])).symm.trans HO5.out)⟩, by simp [intOf]⟩
              | false =>
                have hij4 : i4 < g5 + 1 := by rcases Nat.lt_or_eq_of_le hg5 with h | h; exact h; exfalso; have e1 := HL4.out; rw [h, HY5.out, hl5] at e1; cases e1
                have HJE5 : Hid (scanDown (dnE v) dk i4 j3 = g5 + 1) := Lib.hid (by rw [← HO5.out]; exact dn_stop (by show ltInt v _ = false; rw [HY5.out, hl5]))
                have HPO := Lib.hid (pe_on HVK.out HI4.out HJE5.out (Nat.le_of_lt hij4) hi34 hj5 (Nat.succ_pos _))
                have hgt : ¬ (g5 + 1 < i4) := by omega
                obtain ⟨x5, hx5⟩ : ∃ x5, dk[i4]! = x5 := ⟨_, rfl⟩
                have HX5 := Lib.hid hx5
                have c7 := HJ5.out.cell (j := i4) (by rw [HSK.out]; omega)
                have k7 := HJ5.out.froz (j := i4) (by rw [HSK.out]; omega)
                rw [hx5] at c7
                clear hx5
                go_wp2
                go_region
                go_wp2
                refine ⟨⟨i4 + 1, g5, swp dk i4 (g5 + 1), by go_num, by go_num, by omega, by omega, by omega, by omega, Lib.hid (by rw [swp_size]; exact HSK.out), Lib.hid (by rw [swp_at (by omega) (by omega)]; exact HVK.out), Lib.hid ((HJ5.out.drewN _).swp (by rw [HSK.out]; omega) (by rw [HSK.out]; omega) HY5.out HX5.out), Lib.hid ?_⟩, by simp [intOf]; try omega⟩
                have h3 := HPO.out
                rw [Nat.add_sub_cancel, HP.out] at h3
                exact h3.symm
            · have hlt5 : j5 < i4 := by omega
              have hd5 : decide ((i4 : Int) ≤ (j5 : Int)) = false := by simp; omega
              have HJE5 : Hid (scanDown (dnE v) dk i4 j3 = j5) := Lib.hid (by rw [← HO5.out]; exact dn_gt hlt5)
              go_wp2
              go_quiet (fail)
              have HF : Hid (partitionEqual ltInt d a (b1 + 1) p = (i4, dk)) := Lib.hid (by rw [← HD1.out, ← HP.out]; exact pe_end HVK.out HI4.out HJE5.out hlt5)
              go_wp2
              go_ret
              exact ⟨i4, dk, HF.out, by omega, by omega, rfl, HSK.out, (HJ5.out.drewN _)⟩
      · have hd4 : decide ((i4 : Int) ≤ (j3 : Int)) = false := by simp; omega
        have HI4 : Hid (scanUp (upE v) dk j3 i3 = i4) := Lib.hid (by rw [← HO4.out]; exact up_gt (by omega))
        go_wp2
        go_quiet (fail)
        go_wp2
        go_loopw [10] (fun uj wr => ∃ j5 : Nat, uj = .int .i64 (j5 : Int) ∧ a ≤ j5 ∧ j5 ≤ j3 ∧ Hid (Rw w wr blk off dk) ∧ Hid (scanDown (dnE v) dk i4 j5 = scanDown (dnE v) dk i4 j3)) (fun uj _ => (intOf uj).toNat)
        case atStart => exact ⟨j3, rfl, by omega, Nat.le_refl _, Lib.hid (H4.out.drewN _), Lib.hid rfl⟩
        case round =>
          obtain ⟨j5, rfl, haj5, hj5, HJ5, HO5⟩ := hrel
          by_cases hg5 : i4 ≤ j5
          · exact absurd hg5 (by omega)
          · have hlt5 : j5 < i4 := by omega
            have hd5 : decide ((i4 : Int) ≤ (j5 : Int)) = false := by simp; omega
            have HJE5 : Hid (scanDown (dnE v) dk i4 j3 = j5) := Lib.hid (by rw [← HO5.out]; exact dn_gt hlt5)
            go_wp2
            go_quiet (fail)
            have HF : Hid (partitionEqual ltInt d a (b1 + 1) p = (i4, dk)) := Lib.hid (by rw [← HD1.out, ← HP.out]; exact pe_end HVK.out HI4.out HJE5.out hlt5)
            go_wp2
            go_ret
            exact ⟨i4, dk, HF.out, by omega, by omega, rfl, HSK.out, (HJ5.out.drewN _)⟩
end Go.Proofs.Ytpabbhhaagfoeaa
end

section
/- slices.Sort of numbers: partialInsertionSortOrdered (printed by wip/tools/gensrt/pins.py). -/
namespace Go.Proofs.Ytpabbhhaagfoeaa
set_option maxRecDepth 100000
open Go.RowKit
set_option linter.unusedVariables false
set_option linter.unusedSimpArgs false
open Go.Sort (scanSorted shiftDown shiftUp partialIns ltInt swp)
theorem ss_on {d : Array Int} {b g : Nat} (h : g + 1 < b) (hl : ltInt d[g + 1]! d[g]! = false) : scanSorted ltInt d b (g + 1) = scanSorted ltInt d b (g + 2) := by
  rw [scanSorted, if_pos (by simp [h, hl])]
theorem ss_end {d : Array Int} {b i : Nat} (h : b ≤ i) : scanSorted ltInt d b i = i := by
  rw [scanSorted, if_neg (by simp; omega)]
theorem ss_stop {d : Array Int} {b g : Nat} (hl : ltInt d[g + 1]! d[g]! = true) : scanSorted ltInt d b (g + 1) = g + 1 := by
  rw [scanSorted, if_neg (by simp [hl])]
theorem sd_on {d : Array Int} {g : Nat} (hl : ltInt d[g + 1]! d[g]! = true) : shiftDown ltInt (g + 1) d = shiftDown ltInt g (swp d (g + 1) g) := by
  rw [shiftDown, if_neg (by simp [hl])]
theorem sd_stop {d : Array Int} {g : Nat} (hl : ltInt d[g + 1]! d[g]! = false) : shiftDown ltInt (g + 1) d = d := by
  rw [shiftDown, if_pos (by simp [hl])]
theorem su_on {d : Array Int} {b g : Nat} (h : g + 1 < b) (hl : ltInt d[g + 1]! d[g]! = true) : shiftUp ltInt b (g + 1) d = shiftUp ltInt b (g + 2) (swp d (g + 1) g) := by
  rw [shiftUp, if_pos h, if_neg (by simp [hl])]; rfl
theorem su_stop {d : Array Int} {b g : Nat} (hl : ltInt d[g + 1]! d[g]! = false) : shiftUp ltInt b (g + 1) d = d := by
  rw [shiftUp]; split
  · rw [if_pos (by simp [hl])]
  · rfl
theorem su_end {d : Array Int} {b i : Nat} (h : b ≤ i) : shiftUp ltInt b i d = d := by
  rw [shiftUp, if_neg (by omega)]
theorem pi_end {d : Array Int} {a b s i : Nat} (hs : scanSorted ltInt d b i = b) : partialIns ltInt a b (s + 1) i d = (d, true) := by
  simp only [partialIns, hs, if_true]
theorem pi_short {d : Array Int} {a b s i i2 : Nat} (hs : scanSorted ltInt d b i = i2) (hb : i2 ≠ b) (h : b - a < 50) : partialIns ltInt a b (s + 1) i d = (d, false) := by
  simp only [partialIns, hs, if_neg hb, if_pos h]
theorem pi_step {d d1 d2 d3 : Array Int} {a b s i g : Nat} (hs : scanSorted ltInt d b i = g + 1) (hb : g + 1 ≠ b) (h : ¬ b - a < 50) (e1 : swp d (g + 1) g = d1) (e2 : (if g + 1 - a ≥ 2 then shiftDown ltInt g d1 else d1) = d2)
    (e3 : (if b - (g + 1) ≥ 2 then shiftUp ltInt b (g + 2) d2 else d2) = d3) : partialIns ltInt a b (s + 1) i d = partialIns ltInt a b s (g + 1) d3 := by
  subst e1; subst e2; subst e3
  rw [partialIns]
  simp only [hs, if_neg hb, if_neg h]
  rfl
def ITold (w : World) (d : Array Int) (a b blk off n : Nat) (e : Ending) (w' : World) : Prop :=
  ∃ d' f, Go.Sort.partialInsertionSort ltInt d a b = (d', f) ∧ e = .returned (.bool f) ∧ d'.size = n ∧ Rw w w' blk off d'
set_option maxHeartbeats 4000000 in
theorem spins_any (w : World) {blk off cap a b n : Nat} {d : Array Int} (hR : Rw w w blk off d) (hn : d.size = n) (hab : a < b) (hb : b ≤ n) (hsz : n < 4611686018427387904) :
    Calls Try.prog 71 #[.slice (some ⟨blk, off, none⟩) n cap, .int .i64 (a : Int), .int .i64 (b : Int)] w (ITold w d a b blk off n) := by
  have HR := Lib.hid hR
  have HN := Lib.hid hn
  have HD : Hid (partialIns ltInt a b 5 (a + 1) d = Go.Sort.partialInsertionSort ltInt d a b) := Lib.hid rfl
  clear hR hn
  go_enter Try.func71, Try.ntmps71
  go_wp2
  go_loopw [7, 8] (fun ui ut wr => ∃ (i t : Nat) (dk : Array Int), ui = .int .i64 (i : Int) ∧ ut = .int .i64 (t : Int) ∧ a < i ∧ i ≤ b ∧ t ≤ 5 ∧ Hid (dk.size = n) ∧ Hid (Rw w wr blk off dk) ∧ Hid (partialIns ltInt a b (5 - t) i dk = partialIns ltInt a b 5 (a + 1) d)) (fun _ ut _ => 5 - (intOf ut).toNat)
  case atStart => exact ⟨a + 1, 0, d, by go_num, rfl, by omega, by omega, by omega, HN, HR, Lib.hid rfl⟩
  case round =>
    obtain ⟨i, t, dk, rfl, rfl, hai, hib, ht, HS, HK, HO⟩ := hrel
    obtain ⟨w1, hwo⟩ : ∃ x, x = wr := ⟨_, rfl⟩
    subst hwo
    by_cases ht5 : t = 5
    · subst ht5
      go_wp2
      go_ret
      exact ⟨dk, false, by rw [← HD.out, ← HO.out]; rfl, rfl, HS.out, HK.out⟩
    · have ht4 : t < 5 := by omega
      go_wp2
      go_loopw [7] (fun ui wr => ∃ i2 : Nat, ui = .int .i64 (i2 : Int) ∧ a < i2 ∧ i2 ≤ b ∧ Hid (Rw w wr blk off dk) ∧ Hid (scanSorted ltInt dk b i2 = scanSorted ltInt dk b i)) (fun ui _ => b - (intOf ui).toNat)
      case atStart => exact ⟨i, rfl, hai, hib, HK, Lib.hid rfl⟩
      case round =>
        obtain ⟨i2, rfl, hai2, hib2, H2, HO2⟩ := hrel
        obtain ⟨g, rfl⟩ : ∃ g, i2 = g + 1 := ⟨i2 - 1, by omega⟩
        obtain ⟨w2, hwo⟩ : ∃ x, x = wr := ⟨_, rfl⟩
        subst hwo
        by_cases hgb : g + 1 < b
        · have hd : decide ((g : Int) + 1 < (b : Int)) = true := by simp; omega
          obtain ⟨x, hx⟩ : ∃ x, dk[g + 1]! = x := ⟨_, rfl⟩
          have HX := Lib.hid hx
          have c1 := H2.out.cell (j := g + 1) (by rw [HS.out]; omega)
          have k1 := H2.out.froz (j := g + 1) (by rw [HS.out]; omega)
          rw [hx] at c1
          clear hx
          obtain ⟨y, hy⟩ : ∃ y, dk[g]! = y := ⟨_, rfl⟩
          have HY := Lib.hid hy
          have c2 := H2.out.cell (j := g) (by rw [HS.out]; omega)
          have k2 := H2.out.froz (j := g) (by rw [HS.out]; omega)
          rw [hy] at c2
          clear hy
          go_wp2
          go_quiet ((go_at_call 72; exact (sless_any _ _ _).mono fun _ _ h => ⟨h.1, _, h.2⟩))
          cases hl : ltInt x y with
          | false =>
            go_wp2
            exact ⟨⟨g + 2, by go_num, by omega, by omega, Lib.hid (H2.out.drewN _), Lib.hid ((ss_on hgb (by rw [HX.out, HY.out]; exact hl)).symm.trans HO2.out)⟩, by simp [intOf]; omega⟩
          | true =>
            have HSS : Hid (scanSorted ltInt dk b i = g + 1) := Lib.hid (by rw [← HO2.out]; exact ss_stop (by rw [HX.out, HY.out]; exact hl))
            have hgb : g + 1 ≠ b := by omega
            have hgbI : ¬ ((g : Int) + 1 = (b : Int)) := by omega
            by_cases h50 : b - a < 50
            · have h50I : (b : Int) - (a : Int) < 50 := by omega
              have HF := Lib.hid (pi_short (s := 4 - t) HSS.out hgb h50)
              go_wp2
              go_ret
              exact ⟨dk, false, by rw [← HD.out, ← HO.out, show 5 - t = 4 - t + 1 by omega]; exact HF.out, rfl, HS.out, H2.out.drewN _⟩
            · have h50I : ¬ ((b : Int) - (a : Int) < 50) := by omega
              obtain ⟨ds, hds⟩ : ∃ ds, swp dk (g + 1) g = ds := ⟨_, rfl⟩
              have HE1 := Lib.hid hds
              have HSD : Hid (ds.size = n) := Lib.hid (by rw [← hds, swp_size]; exact HS.out)
              have HSW : Hid (∀ m, Rw w (((w2.drewN m).setCell ⟨blk, off + (g + 1), none⟩ (.int .u64 y)).setCell ⟨blk, off + g, none⟩ (.int .u64 x)) blk off ds) := Lib.hid (fun m => by rw [← hds]; exact (H2.out.drewN m).swp (by rw [HS.out]; omega) (by rw [HS.out]; omega) HY.out HX.out)
              clear hds
              by_cases hga : 2 ≤ g + 1 - a
              · have hgaI : (2 : Int) ≤ (g : Int) + 1 - (a : Int) := by omega
                go_wp2
                go_region
                go_wp2
                go_loopw [9] (fun uj wr => ∃ (j3 : Nat) (dj : Array Int), uj = .int .i64 (j3 : Int) ∧ j3 ≤ g ∧ Hid (dj.size = n) ∧ Hid (Rw w wr blk off dj) ∧ Hid (shiftDown ltInt j3 dj = shiftDown ltInt g ds)) (fun uj _ => (intOf uj).toNat)
                case atStart => exact ⟨g, ds, by go_num, Nat.le_refl _, HSD, Lib.hid (HSW.out _), Lib.hid rfl⟩
                case round =>
                  obtain ⟨j3, dj, rfl, hj3, HSJ, HJ, HOJ⟩ := hrel
                  obtain ⟨w3, hwo⟩ : ∃ x, x = wr := ⟨_, rfl⟩
                  subst hwo
                  cases j3 with
                  | zero =>
                    have HE2 : Hid ((if g + 1 - a ≥ 2 then shiftDown ltInt g ds else ds) = dj) := Lib.hid (by rw [if_pos hga]; exact HOJ.out.symm)
                    by_cases hb2 : 2 ≤ b - (g + 1)
                    · have hb2I : (2 : Int) ≤ (b : Int) - ((g : Int) + 1) := by omega
                      go_wp2
                      go_loopw [10] (fun uj wr => ∃ (j4 : Nat) (du : Array Int), uj = .int .i64 ((j4 : Int) + 1) ∧ g < j4 ∧ j4 < b ∧ Hid (du.size = n) ∧ Hid (Rw w wr blk off du) ∧ Hid (shiftUp ltInt b (j4 + 1) du = shiftUp ltInt b (g + 2) dj)) (fun uj _ => b - (intOf uj).toNat)
                      case atStart => exact ⟨g + 1, dj, by go_num, by omega, by omega, HSJ, Lib.hid (HJ.out), Lib.hid rfl⟩
                      case round =>
                        obtain ⟨j4, du, rfl, hgj4, hj4, HSU, HU, HOU⟩ := hrel
                        by_cases hj4b : j4 + 1 < b
                        · have hj4I : (j4 : Int) + 1 < (b : Int) := by omega
                          obtain ⟨x4, hx4⟩ : ∃ x4, du[j4 + 1]! = x4 := ⟨_, rfl⟩
                          have HX4 := Lib.hid hx4
                          have c5 := HU.out.cell (j := j4 + 1) (by rw [HSU.out]; omega)
                          have k5 := HU.out.froz (j := j4 + 1) (by rw [HSU.out]; omega)
                          rw [hx4] at c5
                          clear hx4
                          obtain ⟨y4, hy4⟩ : ∃ y4, du[j4]! = y4 := ⟨_, rfl⟩
                          have HY4 := Lib.hid hy4
                          have c6 := HU.out.cell (j := j4) (by rw [HSU.out]; omega)
                          have k6 := HU.out.froz (j := j4) (by rw [HSU.out]; omega)
                          rw [hy4] at c6
                          clear hy4
                          go_wp2
                          go_quiet ((go_at_call 72; exact (sless_any _ _ _).mono fun _ _ h => ⟨h.1, _, h.2⟩))
                          cases hl4 : ltInt x4 y4 with
                          | true =>
                            go_wp2
                            go_region
                            go_wp2
                            exact ⟨⟨j4 + 1, swp du (j4 + 1) j4, by go_num, by omega, by omega, Lib.hid (by rw [swp_size]; exact HSU.out), Lib.hid ((HU.out.drewN _).swp (by rw [HSU.out]; omega) (by rw [HSU.out]; omega) HY4.out HX4.out), Lib.hid ((su_on hj4b (by rw [HX4.out, HY4.out]; exact hl4)).symm.trans HOU.out)⟩, by simp [intOf]; omega⟩
                          | false =>
                            have HE3 : Hid ((if b - (g + 1) ≥ 2 then shiftUp ltInt b (g + 2) dj else dj) = du) := Lib.hid (by rw [if_pos hb2, ← HOU.out]; exact su_stop (by rw [HX4.out, HY4.out]; exact hl4))
                            go_wp2
                            have HST := Lib.hid (pi_step (s := 4 - t) HSS.out hgb h50 HE1.out HE2.out HE3.out)
                            refine ⟨⟨g + 1, t + 1, du, rfl, by go_num, by omega, by omega, by omega, HSU, Lib.hid (HU.out.drewN _), Lib.hid ?_⟩, by simp [intOf]; omega⟩
                            have h3 := HST.out
                            rw [show 4 - t + 1 = 5 - t by omega, HO.out, show 4 - t = 5 - (t + 1) by omega] at h3
                            exact h3.symm
                        · have hj4I : ¬ ((j4 : Int) + 1 < (b : Int)) := by omega
                          have HE3 : Hid ((if b - (g + 1) ≥ 2 then shiftUp ltInt b (g + 2) dj else dj) = du) := Lib.hid (by rw [if_pos hb2, ← HOU.out]; exact su_end (by omega))
                          go_wp2
                          have HST := Lib.hid (pi_step (s := 4 - t) HSS.out hgb h50 HE1.out HE2.out HE3.out)
                          refine ⟨⟨g + 1, t + 1, du, rfl, by go_num, by omega, by omega, by omega, HSU, Lib.hid (HU.out), Lib.hid ?_⟩, by simp [intOf]; omega⟩
                          have h3 := HST.out
                          rw [show 4 - t + 1 = 5 - t by omega, HO.out, show 4 - t = 5 - (t + 1) by omega] at h3
                          exact h3.symm
                    · have hb2I : ¬ ((2 : Int) ≤ (b : Int) - ((g : Int) + 1)) := by omega
                      go_wp2
                      have HST := Lib.hid (pi_step (s := 4 - t) HSS.out hgb h50 HE1.out HE2.out (if_neg (by omega)))
                      refine ⟨⟨g + 1, t + 1, dj, rfl, by go_num, by omega, by omega, by omega, HSJ, Lib.hid (HJ.out), Lib.hid ?_⟩, by simp [intOf]; omega⟩
                      have h3 := HST.out
                      rw [show 4 - t + 1 = 5 - t by omega, HO.out, show 4 - t = 5 - (t + 1) by omega] at h3
                      exact h3.symm
                  | succ j3 =>
                    obtain ⟨x3, hx3⟩ : ∃ x3, dj[j3 + 1]! = x3 := ⟨_, rfl⟩
                    have HX3 := Lib.hid hx3
                    have c3 := HJ.out.cell (j := j3 + 1) (by rw [HSJ.out]; omega)
                    have k3 := HJ.out.froz (j := j3 + 1) (by rw [HSJ.out]; omega)
                    rw [hx3] at c3
                    clear hx3
                    obtain ⟨y3, hy3⟩ : ∃ y3, dj[j3]! = y3 := ⟨_, rfl⟩
                    have HY3 := Lib.hid hy3
                    have c4 := HJ.out.cell (j := j3) (by rw [HSJ.out]; omega)
                    have k4 := HJ.out.froz (j := j3) (by rw [HSJ.out]; omega)
                    rw [hy3] at c4
                    clear hy3
                    go_wp2
                    go_quiet ((go_at_call 72; exact (sless_any _ _ _).mono fun _ _ h => ⟨h.1, _, h.2⟩))
                    cases hl3 : ltInt x3 y3 with
                    | true =>
                      go_wp2
                      go_region
                      go_wp2
                      exact ⟨⟨j3, swp dj (j3 + 1) j3, by go_num, by omega, Lib.hid (by rw [swp_size]; exact HSJ.out), Lib.hid ((HJ.out.drewN _).swp (by rw [HSJ.out]; omega) (by rw [HSJ.out]; omega) HY3.out HX3.out), Lib.hid ((sd_on (by rw [HX3.out, HY3.out]; exact hl3)).symm.trans HOJ.out)⟩, by simp [intOf]⟩
                    | false =>
                      have HE2 : Hid ((if g + 1 - a ≥ 2 then shiftDown ltInt g ds else ds) = dj) := Lib.hid (by rw [if_pos hga, ← HOJ.out]; exact sd_stop (by rw [HX3.out, HY3.out]; exact hl3))
                      by_cases hb2 : 2 ≤ b - (g + 1)
                      · have hb2I : (2 : Int) ≤ (b : Int) - ((g : Int) + 1) := by omega
                        go_wp2
                        go_loopw [10] (fun uj wr => ∃ (j4 : Nat) (du : Array Int), uj = .int .i64 ((j4 : Int) + 1) ∧ g < j4 ∧ j4 < b ∧ Hid (du.size = n) ∧ Hid (Rw w wr blk off du) ∧ Hid (shiftUp ltInt b (j4 + 1) du = shiftUp ltInt b (g + 2) dj)) (fun uj _ => b - (intOf uj).toNat)
                        case atStart => exact ⟨g + 1, dj, by go_num, by omega, by omega, HSJ, Lib.hid (HJ.out.drewN _), Lib.hid rfl⟩
                        case round =>
                          obtain ⟨j4, du, rfl, hgj4, hj4, HSU, HU, HOU⟩ := hrel
                          by_cases hj4b : j4 + 1 < b
                          · have hj4I : (j4 : Int) + 1 < (b : Int) := by omega
                            obtain ⟨x4, hx4⟩ : ∃ x4, du[j4 + 1]! = x4 := ⟨_, rfl⟩
                            have HX4 := Lib.hid hx4
                            have c5 := HU.out.cell (j := j4 + 1) (by rw [HSU.out]; omega)
                            have k5 := HU.out.froz (j := j4 + 1) (by rw [HSU.out]; omega)
                            rw [hx4] at c5
                            clear hx4
                            obtain ⟨y4, hy4⟩ : ∃ y4, du[j4]! = y4 := ⟨_, rfl⟩
                            have HY4 := Lib.hid hy4
                            have c6 := HU.out.cell (j := j4) (by rw [HSU.out]; omega)
                            have k6 := HU.out.froz (j := j4) (by rw [HSU.out]; omega)
                            rw [hy4] at c6
                            clear hy4
                            go_wp2
                            go_quiet ((go_at_call 72; exact (sless_any _ _ _).mono fun _ _ h => ⟨h.1, _, h.2⟩))
                            cases hl4 : ltInt x4 y4 with
                            | true =>
                              go_wp2
                              go_region
                              go_wp2
                              exact ⟨⟨j4 + 1, swp du (j4 + 1) j4, by go_num, by omega, by omega, Lib.hid (by rw [swp_size]; exact HSU.out), Lib.hid ((HU.out.drewN _).swp (by rw [HSU.out]; omega) (by rw [HSU.out]; omega) HY4.out HX4.out), Lib.hid ((su_on hj4b (by rw [HX4.out, HY4.out]; exact hl4)).symm.trans HOU.out)⟩, by simp [intOf]; omega⟩
                            | false =>
                              have HE3 : Hid ((if b - (g + 1) ≥ 2 then shiftUp ltInt b (g + 2) dj else dj) = du) := Lib.hid (by rw [if_pos hb2, ← HOU.out]; exact su_stop (by rw [HX4.out, HY4.out]; exact hl4))
                              go_wp2
                              have HST := Lib.hid (pi_step (s := 4 - t) HSS.out hgb h50 HE1.out HE2.out HE3.out)
                              refine ⟨⟨g + 1, t + 1, du, rfl, by go_num, by omega, by omega, by omega, HSU, Lib.hid (HU.out.drewN _), Lib.hid ?_⟩, by simp [intOf]; omega⟩
                              have h3 := HST.out
                              rw [show 4 - t + 1 = 5 - t by omega, HO.out, show 4 - t = 5 - (t + 1) by omega] at h3
                              exact h3.symm
                          · have hj4I : ¬ ((j4 : Int) + 1 < (b : Int)) := by omega
                            have HE3 : Hid ((if b - (g + 1) ≥ 2 then shiftUp ltInt b (g + 2) dj else dj) = du) := Lib.hid (by rw [if_pos hb2, ← HOU.out]; exact su_end (by omega))
                            go_wp2
                            have HST := Lib.hid (pi_step (s := 4 - t) HSS.out hgb h50 HE1.out HE2.out HE3.out)
                            refine ⟨⟨g + 1, t + 1, du, rfl, by go_num, by omega, by omega, by omega, HSU, Lib.hid (HU.out), Lib.hid ?_⟩, by simp [intOf]; omega⟩
                            have h3 := HST.out
                            rw [show 4 - t + 1 = 5 - t by omega, HO.out, show 4 - t = 5 - (t + 1) by omega] at h3
                            exact h3.symm
                      · have hb2I : ¬ ((2 : Int) ≤ (b : Int) - ((g : Int) + 1)) := by omega
                        go_wp2
                        have HST := Lib.hid (pi_step (s := 4 - t) HSS.out hgb h50 HE1.out HE2.out (if_neg (by omega)))
                        refine ⟨⟨g + 1, t + 1, dj, rfl, by go_num, by omega, by omega, by omega, HSJ, Lib.hid (HJ.out.drewN _), Lib.hid ?_⟩, by simp [intOf]; omega⟩
                        have h3 := HST.out
                        rw [show 4 - t + 1 = 5 - t by omega, HO.out, show 4 - t = 5 - (t + 1) by omega] at h3
                        exact h3.symm
              · have hgaI : ¬ ((2 : Int) ≤ (g : Int) + 1 - (a : Int)) := by omega
                go_wp2
                go_region
                have HE2 : Hid ((if g + 1 - a ≥ 2 then shiftDown ltInt g ds else ds) = ds) := Lib.hid (if_neg (by omega))
                by_cases hb2 : 2 ≤ b - (g + 1)
                · have hb2I : (2 : Int) ≤ (b : Int) - ((g : Int) + 1) := by omega
                  go_wp2
                  go_loopw [10] (fun uj wr => ∃ (j4 : Nat) (du : Array Int), uj = .int .i64 ((j4 : Int) + 1) ∧ g < j4 ∧ j4 < b ∧ Hid (du.size = n) ∧ Hid (Rw w wr blk off du) ∧ Hid (shiftUp ltInt b (j4 + 1) du = shiftUp ltInt b (g + 2) ds)) (fun uj _ => b - (intOf uj).toNat)
                  case atStart => exact ⟨g + 1, ds, by go_num, by omega, by omega, HSD, Lib.hid (HSW.out _), Lib.hid rfl⟩
                  case round =>
                    obtain ⟨j4, du, rfl, hgj4, hj4, HSU, HU, HOU⟩ := hrel
                    by_cases hj4b : j4 + 1 < b
                    · have hj4I : (j4 : Int) + 1 < (b : Int) := by omega
                      obtain ⟨x4, hx4⟩ : ∃ x4, du[j4 + 1]! = x4 := ⟨_, rfl⟩
                      have HX4 := Lib.hid hx4
                      have c5 := HU.out.cell (j := j4 + 1) (by rw [HSU.out]; omega)
                      have k5 := HU.out.froz (j := j4 + 1) (by rw [HSU.out]; omega)
                      rw [hx4] at c5
                      clear hx4
                      obtain ⟨y4, hy4⟩ : ∃ y4, du[j4]! = y4 := ⟨_, rfl⟩
                      have HY4 := Lib.hid hy4
                      have c6 := HU.out.cell (j := j4) (by rw [HSU.out]; omega)
                      have k6 := HU.out.froz (j := j4) (by rw [HSU.out]; omega)
                      rw [hy4] at c6
                      clear hy4
                      go_wp2
                      go_quiet ((go_at_call 72; exact (sless_any _ _ _).mono fun _ _ h => ⟨h.1, _, h.2⟩))
                      cases hl4 : ltInt x4 y4 with
                      | true =>
                        go_wp2
                        go_region
                        go_wp2
                        exact ⟨⟨j4 + 1, swp du (j4 + 1) j4, by go_num, by omega, by omega, Lib.hid (by rw [swp_size]; exact HSU.out), Lib.hid ((HU.out.drewN _).swp (by rw [HSU.out]; omega) (by rw [HSU.out]; omega) HY4.out HX4.out), Lib.hid ((su_on hj4b (by rw [HX4.out, HY4.out]; exact hl4)).symm.trans HOU.out)⟩, by simp [intOf]; omega⟩
                      | false =>
                        have HE3 : Hid ((if b - (g + 1) ≥ 2 then shiftUp ltInt b (g + 2) ds else ds) = du) := Lib.hid (by rw [if_pos hb2, ← HOU.out]; exact su_stop (by rw [HX4.out, HY4.out]; exact hl4))
                        go_wp2
                        have HST := Lib.hid (pi_step (s := 4 - t) HSS.out hgb h50 HE1.out HE2.out HE3.out)
                        refine ⟨⟨g + 1, t + 1, du, rfl, by go_num, by omega, by omega, by omega, HSU, Lib.hid (HU.out.drewN _), Lib.hid ?_⟩, by simp [intOf]; omega⟩
                        have h3 := HST.out
                        rw [show 4 - t + 1 = 5 - t by omega, HO.out, show 4 - t = 5 - (t + 1) by omega] at h3
                        exact h3.symm
                    · have hj4I : ¬ ((j4 : Int) + 1 < (b : Int)) := by omega
                      have HE3 : Hid ((if b - (g + 1) ≥ 2 then shiftUp ltInt b (g + 2) ds else ds) = du) := Lib.hid (by rw [if_pos hb2, ← HOU.out]; exact su_end (by omega))
                      go_wp2
                      have HST := Lib.hid (pi_step (s := 4 - t) HSS.out hgb h50 HE1.out HE2.out HE3.out)
                      refine ⟨⟨g + 1, t + 1, du, rfl, by go_num, by omega, by omega, by omega, HSU, Lib.hid (HU.out), Lib.hid ?_⟩, by simp [intOf]; omega⟩
                      have h3 := HST.out
                      rw [show 4 - t + 1 = 5 - t by omega, HO.out, show 4 - t = 5 - (t + 1) by omega] at h3
                      exact h3.symm
                · exact absurd hb2 (by omega)
        · have hgb2 : g + 1 = b := by omega
          have hd : decide ((g : Int) + 1 < (b : Int)) = false := by simp; omega
          have hgbI : (g : Int) + 1 = (b : Int) := by omega
          have HSS : Hid (scanSorted ltInt dk b i = b) := Lib.hid (by rw [← HO2.out, hgb2]; exact ss_end (Nat.le_refl _))
          have HF := Lib.hid (pi_end (a := a) (s := 4 - t) HSS.out)
          go_wp2
          go_quiet (fail)
          go_wp2
          go_ret
          exact ⟨dk, true, by rw [← HD.out, ← HO.out, show 5 - t = 4 - t + 1 by omega]; exact HF.out, rfl, HS.out, H2.out.drewN _⟩
end Go.Proofs.Ytpabbhhaagfoeaa
end
