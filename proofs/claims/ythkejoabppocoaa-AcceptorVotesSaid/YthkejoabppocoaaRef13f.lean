/- The reference of layer 13: Get; printed by wip/tools/gen13/get.py. -/
import Derived.Test.YthkejoabppocoaaRef13e
namespace Go.Proofs.Ythkejoabppocoaa
set_option maxRecDepth 1000000
open Go.RowKit
set_option linter.unusedVariables false
set_option linter.unusedSimpArgs false

/-- What Get tells. -/
def RGet (w : World) (xs : List UInt8) (e : Ending) (w' : World) : Prop :=
  ∃ A c n, e = .returned (.tuple #[.slice A n c, .int .i64 (vgetL xs).1]) ∧ RVs w' A c n (vgetL xs).2 ∧ n ≤ xs.length + 1 ∧ Mods Nil w w'

set_option maxHeartbeats 6400000 in
theorem r13get_any (w : World) {xs : List UInt8} (hl : xs.length ≤ 100000) :
    Calls Try.prog 23 #[.string (strOf xs)] w (RGet w xs) := by
  obtain ⟨N, hN⟩ : ∃ N, xs.length = N := ⟨_, rfl⟩
  have HNN := Lib.hid hN
  obtain ⟨⟨e0, P0, q⟩, h0⟩ : ∃ r, readUint 0 xs = r := ⟨_, rfl⟩
  have HG : Hid (vgetL xs = vgetN q e0 P0 []) := Lib.hid (by unfold vgetL; rw [h0])
  have HR0 := Lib.hid (rread13 w xs 0 (by omega) h0)
  have HPL := Lib.hid (readUint_len h0)
  have HQ : Hid (q < 18446744073709551616) := Lib.hid (by have := valOf_lt64 xs 0; rw [h0] at this; exact this)
  obtain ⟨TE, hTE⟩ : ∃ x, (vgetL xs).1 = x := ⟨_, rfl⟩
  obtain ⟨TL, hTL⟩ : ∃ x, (vgetL xs).2 = x := ⟨_, rfl⟩
  have HT : Hid (vgetL xs = (TE, TL)) := Lib.hid (by rw [← hTE, ← hTL])
  have hsz : N ≤ 100000 := by omega
  clear hTE hTL hN h0 hl
  have HTOLD : Hid (∀ w' A c n, RVs w' A c n TL → n ≤ N + 1 → Mods Nil w w' → RGet w xs (.returned (.tuple #[.slice A n c, .int .i64 TE])) w') := Lib.hid (fun w' A c n h1 h2 h3 => ⟨A, c, n, by rw [HT.out], by rw [HT.out]; exact h1, by rw [HNN.out]; exact h2, h3⟩)
  go_enter Try.func23, Try.ntmps23
  go_wp2_with (go_at_call 34; refine (HR0.out).mono ?_; rintro e w1 ⟨B0, rfl, hB0, hl0, m1⟩; have HB0 := Lib.hid hB0; have HL0 := Lib.hid hl0; have M1 := Lib.hid m1; clear hB0 hl0 m1)
  go_loopw [5, 6] (fun k o wr => ∃ (j : Nat) (m : Nat) (B : List UInt8) (E : Int) (l : List PVt), j < 18446744073709551616 ∧ k = .int .u64 (j : Int) ∧ vgetN j E B l = (TE, TL) ∧ l.length = m ∧ m ≤ N + 1 ∧ (E = 0 → m + B.length ≤ N) ∧ B.length ≤ N ∧ wr.ownsRow w.heap.size 47 3 o m (vtCs l) ∧ Blk wr w1.heap.size 84 #[.string (strOf B), .int .i64 E] ∧ w.heap.size ≤ w1.heap.size ∧ Mods Nil w wr) (fun k _ _ => (intOf k).toNat)
  case atStart =>
    refine ⟨q, 0, B0, e0, [], HQ.out, rfl, ?_, rfl, by omega, fun _ => ?_, ?_, World.ownsRow_nil _ _ _ _, Blk.new w1 _ _, M1.out.size, M1.out.alloc _⟩
    · rw [← HT.out, HG.out]
      by_cases he : e0 = 0
      · rw [HB0.out he]
      · rw [vgetN_err _ he, vgetN_err _ he]
    · have := HL0.out; have := HNN.out; omega
    · have := HL0.out; have := HNN.out; omega
  case round =>
    clear HR0 HPL HB0 HL0 M1 HG
    obtain ⟨j, m, B, E, l, hj, rfl, hv, hm, hmN, hEB, hBN, ho, hb, hgw, hmo⟩ := hrel
    have HV := Lib.hid hv
    have HM := Lib.hid hm
    have HEB := Lib.hid hEB
    have HO := Lib.hid ho
    have HBK := Lib.hid hb
    have HMO := Lib.hid hmo
    have HJ := Lib.hid hj
    clear hv hm hEB ho hb hmo hj
    have r0 := HBK.out.cell 0
    have r1 := HBK.out.cell 1
    simp only [List.getElem?_toArray, List.getElem?_cons_zero, List.getElem?_cons_succ] at r0 r1
    by_cases hgo : 0 < j ∧ E = 0
    · obtain ⟨hj0, rfl⟩ := hgo
      have hjI : decide ((0 : Int) < (j : Int)) = true := by simp; omega
      have hjN : decide (0 < j) = true := by simp; omega
      obtain ⟨j1, rfl⟩ : ∃ j1, j = j1 + 1 := ⟨j - 1, by omega⟩
      have hwj : IntKind.u64.wrap (((j1 + 1 : Nat) : Int) - 1) = (j1 : Int) := by rw [IntKind.wrap_u64]; have := HJ.out; omega
      obtain ⟨J, hJ⟩ : ∃ J, j1 + 1 = J := ⟨_, rfl⟩
      rw [hJ] at hjI hjN hwj ⊢
      have HJJ := Lib.hid hJ
      rw [hJ] at HV HJ
      clear hJ hj0
      have HMB := HEB.out rfl
      have hmlim : m ≤ 100001 := by omega
      have NEW := Lib.hid (GG.new HBK.out hgw HMO.out HO.out)
      obtain ⟨h, hh⟩ : ∃ h, wr.heap.size = h := ⟨_, rfl⟩
      obtain ⟨W1, hW1⟩ : ∃ W, wr.alloc (.cells #[.int .u64 0, .int .u64 0, .string ⟨#[]⟩] 47) = W := ⟨_, rfl⟩
      rw [hW1, hh] at NEW
      have HF0 := NEW.out.facts
      rw [show w1.heap.size = w1.heap.size from rfl] at HF0
      obtain ⟨⟨w0, w1'⟩, ⟨w2, w3, w4⟩, w5, w6, w7⟩ := HF0
      obtain ⟨W2, hW2⟩ : ∃ W, ((W1.setCell ⟨h, 0, none⟩ (.int .u64 0)).setCell ⟨h, 1, none⟩ (.int .u64 0)).setCell ⟨h, 2, none⟩ (.string ⟨#[]⟩) = W := ⟨_, rfl⟩
      replace NEW := Lib.hid (((NEW.out.setV 0 (.int .u64 0) (s' := 0) (b' := 0) (v' := []) rfl).setV 1 (.int .u64 0) (s' := 0) (b' := 0) (v' := []) rfl).setV 2 (.string ⟨#[]⟩) (s' := 0) (b' := 0) (v' := []) rfl)
      rw [hW2] at NEW
      clear w0 w1'
      obtain ⟨g, hg⟩ : ∃ g, w1.heap.size = g := ⟨_, rfl⟩
      rw [hg] at NEW r0 r1 HBK hgw ⊢
      obtain ⟨⟨f0, f1⟩, ⟨f2, f3, f4⟩, f5, f6, f7⟩ := NEW.out.facts
      obtain ⟨⟨e1, P1, s⟩, h1⟩ : ∃ r, readUint 0 B = r := ⟨_, rfl⟩
      have HC1 := Lib.hid (rread13 W2 B 0 (by omega) h1)
      have H1 := Lib.hid h1
      clear h1
      by_cases he1 : e1 = 0
      · subst he1
        have HD1 := Lib.hid (readUint_down H1.out)
        cases m with
        | zero =>
          have HLN : Hid (l = []) := Lib.hid (List.eq_nil_of_length_eq_zero HM.out)
          obtain ⟨A0, ca, hov, -, -⟩ := own_sls HO.out
          subst hov
          go_wp2_with (first
            | (go_at_call 35; refine (HC3.out _).mono ?_; rintro e w6 ⟨B3, rfl, hB3, hl3, m6⟩; have HB3 := Lib.hid hB3; have HL3 := Lib.hid hl3; have K6 := Lib.hid (K5.out.nil m6); obtain ⟨⟨a0, a1⟩, ⟨a2, a3, a4⟩, a5, a6, a7⟩ := K6.out.facts; clear f0 f1 f2 f3 f4 f5 f6 f7; have f0 := a0; have f1 := a1; have f2 := a2; have f3 := a3; have f4 := a4; have f5 := a5; have f6 := a6; have f7 := a7; clear a0 a1 a2 a3 a4 a5 a6 a7; clear K5 hB3 hl3 m6)
            | (go_at_call 34; have hx := K3.out; clear hx; refine (HC2.out _).mono ?_; rintro e w4 ⟨B2, rfl, hB2, hl2, m4⟩; have HB2 := Lib.hid hB2; have HL2 := Lib.hid hl2; have K4 := Lib.hid (K3.out.nil m4); obtain ⟨⟨a0, a1⟩, ⟨a2, a3, a4⟩, a5, a6, a7⟩ := K4.out.facts; clear f0 f1 f2 f3 f4 f5 f6 f7; have f0 := a0; have f1 := a1; have f2 := a2; have f3 := a3; have f4 := a4; have f5 := a5; have f6 := a6; have f7 := a7; clear a0 a1 a2 a3 a4 a5 a6 a7; obtain ⟨⟨e3, P3, vv⟩, h3⟩ : ∃ r, readBytes e2 B2 32768 = r := ⟨_, rfl⟩; have H3 := Lib.hid h3; have HC3 := Lib.hid (fun V => rbytes13 V B2 e2 (by have := HL1.out; omega) h3); clear K3 hB2 hl2 m4 h3)
            | (go_at_call 34; refine (HC1.out).mono ?_; rintro e w2 ⟨B1, rfl, hB1, hl1, m2⟩; have HB1 := Lib.hid (show B1 = P1 from hB1 (by first | rfl | trivial)); have HL1 := Lib.hid hl1; have K1 := Lib.hid (NEW.out.nil m2); obtain ⟨⟨a0, a1⟩, ⟨a2, a3, a4⟩, a5, a6, a7⟩ := K1.out.facts; clear f0 f1 f2 f3 f4 f5 f6 f7; have f0 := a0; have f1 := a1; have f2 := a2; have f3 := a3; have f4 := a4; have f5 := a5; have f6 := a6; have f7 := a7; clear a0 a1 a2 a3 a4 a5 a6 a7; obtain ⟨⟨e2, P2, bb⟩, h2⟩ : ∃ r, readUint 0 B1 = r := ⟨_, rfl⟩; have H2 := Lib.hid h2; have HC2 := Lib.hid (fun V => rread13 V B1 0 (by omega) h2); clear hB1 hl1 m2 h2)
            | (refine wpList_store_mk rfl 84 (.tmp 4) (.tmp 28) rfl rfl g rfl 84 #[.string (strOf B), .int .i64 0] #[.string (strOf B1), .int .i64 0] rfl K1.out.r rfl (by simp [Value.oneCell']) rr_info (by simp [Value.cells]) ?_; intro w3 b3 m3; obtain ⟨W3, hW3⟩ : ∃ W, w3.setCell ⟨h, 0, none⟩ (.int .u64 (s : Int)) = W := ⟨_, rfl⟩; have K2 := Lib.hid (K1.out.setR b3 m3); have K3 := Lib.hid (K2.out.setV 0 (.int .u64 (s : Int)) (s' := s) (b' := 0) (v' := []) rfl); rw [hW3] at K3; obtain ⟨⟨c0, c1⟩, ⟨c2, c3, c4⟩, c5, c6, c7⟩ := K2.out.facts; obtain ⟨⟨a0, a1⟩, ⟨a2, a3, a4⟩, a5, a6, a7⟩ := K3.out.facts; clear f0 f1 f2 f3 f4 f5 f6 f7; have f0 := a0; have f1 := a1; have f2 := a2; have f3 := a3; have f4 := a4; have f5 := a5; have f6 := a6; have f7 := a7; clear a0 a1 a2 a3 a4 a5 a6 a7; clear K1 b3 m3)
            | (refine wpList_store_mk rfl 84 (.tmp 4) (.tmp 54) rfl rfl g rfl 84 #[.string (strOf B1), .int .i64 0] #[.string (strOf B2), .int .i64 e2] rfl K4.out.r rfl (by simp [Value.oneCell']) rr_info (by simp [Value.cells]) ?_; intro w5 b5 m5; obtain ⟨W5, hW5⟩ : ∃ W, w5.setCell ⟨h, 1, none⟩ (.int .u64 (bb : Int)) = W := ⟨_, rfl⟩; have K4' := Lib.hid (K4.out.setR b5 m5); have K5 := Lib.hid (K4'.out.setV 1 (.int .u64 (bb : Int)) (s' := s) (b' := bb) (v' := []) rfl); rw [hW5] at K5; obtain ⟨⟨c0, c1⟩, ⟨c2, c3, c4⟩, c5, c6, c7⟩ := K4'.out.facts; obtain ⟨⟨a0, a1⟩, ⟨a2, a3, a4⟩, a5, a6, a7⟩ := K5.out.facts; clear f0 f1 f2 f3 f4 f5 f6 f7; have f0 := a0; have f1 := a1; have f2 := a2; have f3 := a3; have f4 := a4; have f5 := a5; have f6 := a6; have f7 := a7; clear a0 a1 a2 a3 a4 a5 a6 a7; clear K4 b5 m5)
            | (refine wpList_store_mk rfl 84 (.tmp 4) (.tmp 61) rfl rfl g rfl 84 #[.string (strOf B2), .int .i64 e2] #[.string (strOf B3), .int .i64 e3] rfl K6.out.r rfl (by simp [Value.oneCell']) rr_info (by simp [Value.cells]) ?_; intro w7 b7 m7; obtain ⟨W7, hW7⟩ : ∃ W, w7.setCell ⟨h, 2, none⟩ (.string (strOf vv)) = W := ⟨_, rfl⟩; have K6' := Lib.hid (K6.out.setR b7 m7); have K7 := Lib.hid (K6'.out.setV 2 (.string (strOf vv)) (s' := s) (b' := bb) (v' := vv) rfl); rw [hW7] at K7; obtain ⟨⟨c0, c1⟩, ⟨c2, c3, c4⟩, c5, c6, c7⟩ := K6'.out.facts; obtain ⟨⟨a0, a1⟩, ⟨a2, a3, a4⟩, a5, a6, a7⟩ := K7.out.facts; clear f0 f1 f2 f3 f4 f5 f6 f7; have f0 := a0; have f1 := a1; have f2 := a2; have f3 := a3; have f4 := a4; have f5 := a5; have f6 := a6; have f7 := a7; clear a0 a1 a2 a3 a4 a5 a6 a7; clear K6 b7 m7)
            | (at_builtin; refine push_vt rfl _ _ rfl ⟨s, bb, vv⟩ rfl K7.out.own rfl (by omega) (by have := K7.out.mm.size; omega) ?_; intro v' w8 o8 m8; have O8 := Lib.hid o8; have M8 := Lib.hid (own_nilm K7.out.own (Nat.le_refl _) K7.out.mm m8); have B8 := Lib.hid (K7.out.r.mods m8 (fun e => own_blk_ne K7.out.own K7.out.r (by decide) e)); clear o8 m8))
          have hstep := vget_step (n := j1) H1.out (fun _ => HB1.out) H2.out HB2.out H3.out HB3.out (out := l) (by rintro ⟨_, u, hu, _⟩; rw [HLN.out] at hu; cases hu)
          have HST := Lib.hid hstep
          clear hstep
          have hv2 := HV.out
          rw [← HJJ.out, HST.out] at hv2
          refine ⟨⟨j1, 0 + 1, B3, e3, l ++ [⟨s, bb, vv⟩], by have := HJ.out; have := HJJ.out; omega, rfl, hv2, by rw [List.length_append, HM.out]; rfl, by omega, (fun h3 => by have := HB1.out; have := HL2.out; have := HL3.out; have := HD1.out; subst B1; omega), by have := HL1.out; have := HL2.out; have := HL3.out; omega, O8.out, B8.out, hgw, M8.out⟩, by have := HJJ.out; simp [intOf]; omega⟩
        | succ p =>
          have hpl : p < l.length := by rw [HM.out]; omega
          obtain ⟨y, hy⟩ : ∃ y, l[p] = y := ⟨_, rfl⟩
          have hlast : l.getLast? = some y := by rw [List.getLast?_eq_getElem?, HM.out, Nat.add_sub_cancel, ← hy]; exact List.getElem?_eq_getElem hpl
          have HLAST := Lib.hid hlast
          have HOW := Lib.hid (own_sls HO.out)
          have HPC := Lib.hid (show (vtCs l)[p * 3]? = some (.int .u64 (y.slot : Int)) by rw [← hy]; exact (vtCs_at l p hpl).1)
          obtain ⟨ls, hls⟩ : ∃ ls, y.slot = ls := ⟨_, rfl⟩
          rw [hls] at HPC
          have HLS := Lib.hid hls
          clear hpl hy hlast hls
          obtain ⟨A0, ca, hov, hsl, -⟩ := HOW.out
          obtain ⟨lb, lo, hA0, -, -⟩ := hsl.at_ (by omega) (by omega)
          subst hA0
          subst hov
          clear hsl HOW
          have HCELL : Hid (∀ (V : World), V.ownsRow w.heap.size 47 3 (.slice (some ⟨lb, lo, none⟩) (p + 1) ca) (p + 1) (vtCs l) → V.cell? ⟨lb, lo + p * 3, none⟩ = some (.int .u64 (ls : Int))) := Lib.hid (fun V hV => by
            obtain ⟨b', o', hA, _, hc⟩ := (own_sls' hV).at_ (by omega) (by omega)
            injection hA with hA
            injection hA with e1 e2
            subst e1; subst e2
            exact hc _ _ HPC.out)
          obtain ⟨m, hm⟩ : ∃ m, p + 1 = m := ⟨_, rfl⟩
          have hmI : (m : Int) - 1 = (p : Int) := by omega
          have hpm : (p : Int) < (m : Int) := by omega
          have hm0 : decide (0 < m) = true := by simp; omega
          rw [hm] at HO HM HCELL NEW HMB hmN hmlim ⊢
          have HMP := Lib.hid hm
          clear hm HEB
          by_cases hf : s ≤ ls
          · have hfI : decide ((s : Int) ≤ (ls : Int)) = true := by simp; omega
            have hfN : decide (s ≤ ls) = true := by simp; omega
            have hform := vget_form (n := j1) H1.out HLAST.out (by rw [HLS.out]; exact hf)
            have HFORM := Lib.hid (hform.symm.trans ((congrArg (fun n => vgetN n 0 B l) HJJ.out).trans HV.out))
            have HRES : Hid (TE = 11 ∧ TL = []) := Lib.hid (by have := HFORM.out; injection this with h1 h2; exact ⟨h1.symm, h2.symm⟩)
            clear hform HFORM hf
            go_wp2_with (first
              | (go_at_call 34; refine (HC1.out).mono ?_; rintro e w2 ⟨B1, rfl, hB1, hl1, m2⟩; have HB1 := Lib.hid (show B1 = P1 from hB1 (by first | rfl | trivial)); have HL1 := Lib.hid hl1; have K1 := Lib.hid (NEW.out.nil m2); obtain ⟨⟨a0, a1⟩, ⟨a2, a3, a4⟩, a5, a6, a7⟩ := K1.out.facts; clear f0 f1 f2 f3 f4 f5 f6 f7; have f0 := a0; have f1 := a1; have f2 := a2; have f3 := a3; have f4 := a4; have f5 := a5; have f6 := a6; have f7 := a7; clear a0 a1 a2 a3 a4 a5 a6 a7; obtain ⟨⟨e2, P2, bb⟩, h2⟩ : ∃ r, readUint 0 B1 = r := ⟨_, rfl⟩; have H2 := Lib.hid h2; have HC2 := Lib.hid (fun V => rread13 V B1 0 (by omega) h2); clear hB1 hl1 m2 h2)
              | (refine wpList_store_mk rfl 84 (.tmp 4) (.tmp 28) rfl rfl g rfl 84 #[.string (strOf B), .int .i64 0] #[.string (strOf B1), .int .i64 0] rfl K1.out.r rfl (by simp [Value.oneCell']) rr_info (by simp [Value.cells]) ?_; intro w3 b3 m3; obtain ⟨W3, hW3⟩ : ∃ W, w3.setCell ⟨h, 0, none⟩ (.int .u64 (s : Int)) = W := ⟨_, rfl⟩; have K2 := Lib.hid (K1.out.setR b3 m3); have K3 := Lib.hid (K2.out.setV 0 (.int .u64 (s : Int)) (s' := s) (b' := 0) (v' := []) rfl); rw [hW3] at K3; obtain ⟨⟨c0, c1⟩, ⟨c2, c3, c4⟩, c5, c6, c7⟩ := K2.out.facts; obtain ⟨⟨a0, a1⟩, ⟨a2, a3, a4⟩, a5, a6, a7⟩ := K3.out.facts; clear f0 f1 f2 f3 f4 f5 f6 f7; have f0 := a0; have f1 := a1; have f2 := a2; have f3 := a3; have f4 := a4; have f5 := a5; have f6 := a6; have f7 := a7; clear a0 a1 a2 a3 a4 a5 a6 a7; clear K1 b3 m3; have lc := HCELL.out _ K3.out.own))
            go_ret2
            have := HTOLD.out W3 none 0 0 (by rw [HRES.out.2]; exact RVs.none_ _) (by omega) K3.out.mm
            rw [HRES.out.1] at this
            exact this
          · have hfI : decide ((s : Int) ≤ (ls : Int)) = false := by simp; omega
            have hfN : decide (s ≤ ls) = false := by simp; omega
            have HNF := Lib.hid hf
            clear hf
            go_wp2_with (first
              | (go_at_call 35; refine (HC3.out _).mono ?_; rintro e w6 ⟨B3, rfl, hB3, hl3, m6⟩; have HB3 := Lib.hid hB3; have HL3 := Lib.hid hl3; have K6 := Lib.hid (K5.out.nil m6); obtain ⟨⟨a0, a1⟩, ⟨a2, a3, a4⟩, a5, a6, a7⟩ := K6.out.facts; clear f0 f1 f2 f3 f4 f5 f6 f7; have f0 := a0; have f1 := a1; have f2 := a2; have f3 := a3; have f4 := a4; have f5 := a5; have f6 := a6; have f7 := a7; clear a0 a1 a2 a3 a4 a5 a6 a7; clear K5 hB3 hl3 m6)
              | (go_at_call 34; have hx := K3.out; clear hx; refine (HC2.out _).mono ?_; rintro e w4 ⟨B2, rfl, hB2, hl2, m4⟩; have HB2 := Lib.hid hB2; have HL2 := Lib.hid hl2; have K4 := Lib.hid (K3.out.nil m4); obtain ⟨⟨a0, a1⟩, ⟨a2, a3, a4⟩, a5, a6, a7⟩ := K4.out.facts; clear f0 f1 f2 f3 f4 f5 f6 f7; have f0 := a0; have f1 := a1; have f2 := a2; have f3 := a3; have f4 := a4; have f5 := a5; have f6 := a6; have f7 := a7; clear a0 a1 a2 a3 a4 a5 a6 a7; obtain ⟨⟨e3, P3, vv⟩, h3⟩ : ∃ r, readBytes e2 B2 32768 = r := ⟨_, rfl⟩; have H3 := Lib.hid h3; have HC3 := Lib.hid (fun V => rbytes13 V B2 e2 (by have := HL1.out; omega) h3); clear K3 hB2 hl2 m4 h3)
              | (go_at_call 34; refine (HC1.out).mono ?_; rintro e w2 ⟨B1, rfl, hB1, hl1, m2⟩; have HB1 := Lib.hid (show B1 = P1 from hB1 (by first | rfl | trivial)); have HL1 := Lib.hid hl1; have K1 := Lib.hid (NEW.out.nil m2); obtain ⟨⟨a0, a1⟩, ⟨a2, a3, a4⟩, a5, a6, a7⟩ := K1.out.facts; clear f0 f1 f2 f3 f4 f5 f6 f7; have f0 := a0; have f1 := a1; have f2 := a2; have f3 := a3; have f4 := a4; have f5 := a5; have f6 := a6; have f7 := a7; clear a0 a1 a2 a3 a4 a5 a6 a7; obtain ⟨⟨e2, P2, bb⟩, h2⟩ : ∃ r, readUint 0 B1 = r := ⟨_, rfl⟩; have H2 := Lib.hid h2; have HC2 := Lib.hid (fun V => rread13 V B1 0 (by omega) h2); clear hB1 hl1 m2 h2)
              | (refine wpList_store_mk rfl 84 (.tmp 4) (.tmp 28) rfl rfl g rfl 84 #[.string (strOf B), .int .i64 0] #[.string (strOf B1), .int .i64 0] rfl K1.out.r rfl (by simp [Value.oneCell']) rr_info (by simp [Value.cells]) ?_; intro w3 b3 m3; obtain ⟨W3, hW3⟩ : ∃ W, w3.setCell ⟨h, 0, none⟩ (.int .u64 (s : Int)) = W := ⟨_, rfl⟩; have K2 := Lib.hid (K1.out.setR b3 m3); have K3 := Lib.hid (K2.out.setV 0 (.int .u64 (s : Int)) (s' := s) (b' := 0) (v' := []) rfl); rw [hW3] at K3; obtain ⟨⟨c0, c1⟩, ⟨c2, c3, c4⟩, c5, c6, c7⟩ := K2.out.facts; obtain ⟨⟨a0, a1⟩, ⟨a2, a3, a4⟩, a5, a6, a7⟩ := K3.out.facts; clear f0 f1 f2 f3 f4 f5 f6 f7; have f0 := a0; have f1 := a1; have f2 := a2; have f3 := a3; have f4 := a4; have f5 := a5; have f6 := a6; have f7 := a7; clear a0 a1 a2 a3 a4 a5 a6 a7; clear K1 b3 m3; have lc := HCELL.out _ K3.out.own)
              | (refine wpList_store_mk rfl 84 (.tmp 4) (.tmp 54) rfl rfl g rfl 84 #[.string (strOf B1), .int .i64 0] #[.string (strOf B2), .int .i64 e2] rfl K4.out.r rfl (by simp [Value.oneCell']) rr_info (by simp [Value.cells]) ?_; intro w5 b5 m5; obtain ⟨W5, hW5⟩ : ∃ W, w5.setCell ⟨h, 1, none⟩ (.int .u64 (bb : Int)) = W := ⟨_, rfl⟩; have K4' := Lib.hid (K4.out.setR b5 m5); have K5 := Lib.hid (K4'.out.setV 1 (.int .u64 (bb : Int)) (s' := s) (b' := bb) (v' := []) rfl); rw [hW5] at K5; obtain ⟨⟨c0, c1⟩, ⟨c2, c3, c4⟩, c5, c6, c7⟩ := K4'.out.facts; obtain ⟨⟨a0, a1⟩, ⟨a2, a3, a4⟩, a5, a6, a7⟩ := K5.out.facts; clear f0 f1 f2 f3 f4 f5 f6 f7; have f0 := a0; have f1 := a1; have f2 := a2; have f3 := a3; have f4 := a4; have f5 := a5; have f6 := a6; have f7 := a7; clear a0 a1 a2 a3 a4 a5 a6 a7; clear K4 b5 m5)
              | (refine wpList_store_mk rfl 84 (.tmp 4) (.tmp 61) rfl rfl g rfl 84 #[.string (strOf B2), .int .i64 e2] #[.string (strOf B3), .int .i64 e3] rfl K6.out.r rfl (by simp [Value.oneCell']) rr_info (by simp [Value.cells]) ?_; intro w7 b7 m7; obtain ⟨W7, hW7⟩ : ∃ W, w7.setCell ⟨h, 2, none⟩ (.string (strOf vv)) = W := ⟨_, rfl⟩; have K6' := Lib.hid (K6.out.setR b7 m7); have K7 := Lib.hid (K6'.out.setV 2 (.string (strOf vv)) (s' := s) (b' := bb) (v' := vv) rfl); rw [hW7] at K7; obtain ⟨⟨c0, c1⟩, ⟨c2, c3, c4⟩, c5, c6, c7⟩ := K6'.out.facts; obtain ⟨⟨a0, a1⟩, ⟨a2, a3, a4⟩, a5, a6, a7⟩ := K7.out.facts; clear f0 f1 f2 f3 f4 f5 f6 f7; have f0 := a0; have f1 := a1; have f2 := a2; have f3 := a3; have f4 := a4; have f5 := a5; have f6 := a6; have f7 := a7; clear a0 a1 a2 a3 a4 a5 a6 a7; clear K6 b7 m7)
              | (at_builtin; refine push_vt rfl _ _ rfl ⟨s, bb, vv⟩ rfl K7.out.own rfl (by omega) (by have := K7.out.mm.size; omega) ?_; intro v' w8 o8 m8; have O8 := Lib.hid o8; have M8 := Lib.hid (own_nilm K7.out.own (Nat.le_refl _) K7.out.mm m8); have B8 := Lib.hid (K7.out.r.mods m8 (fun e => own_blk_ne K7.out.own K7.out.r (by decide) e)); clear o8 m8))
            have hstep := vget_step (n := j1) H1.out (fun _ => HB1.out) H2.out HB2.out H3.out HB3.out (out := l) (by rintro ⟨_, u, hu, hs⟩; rw [HLAST.out] at hu; injection hu with hu; rw [← hu, HLS.out] at hs; exact HNF.out hs)
            have HST := Lib.hid hstep
            clear hstep
            have hv2 := HV.out
            rw [← HJJ.out, HST.out] at hv2
            refine ⟨⟨j1, m + 1, B3, e3, l ++ [⟨s, bb, vv⟩], by have := HJ.out; have := HJJ.out; omega, rfl, hv2, by rw [List.length_append, HM.out]; rfl, by omega, (fun h3 => by have := HB1.out; have := HL2.out; have := HL3.out; have := HD1.out; subst B1; omega), by have := HL1.out; have := HL2.out; have := HL3.out; omega, O8.out, B8.out, hgw, M8.out⟩, by have := HJJ.out; simp [intOf]; omega⟩
      · have heI : (e1 == 0) = false := by rw [beq_eq_false_iff_ne]; exact he1
        obtain ⟨A0, ca, hov, -, -⟩ := own_sls HO.out
        subst hov
        have HE1 := Lib.hid he1
        clear he1
        go_wp2_with (first
          | (go_at_call 35; refine (HC3.out _).mono ?_; rintro e w6 ⟨B3, rfl, hB3, hl3, m6⟩; have HB3 := Lib.hid hB3; have HL3 := Lib.hid hl3; have K6 := Lib.hid (K5.out.nil m6); obtain ⟨⟨a0, a1⟩, ⟨a2, a3, a4⟩, a5, a6, a7⟩ := K6.out.facts; clear f0 f1 f2 f3 f4 f5 f6 f7; have f0 := a0; have f1 := a1; have f2 := a2; have f3 := a3; have f4 := a4; have f5 := a5; have f6 := a6; have f7 := a7; clear a0 a1 a2 a3 a4 a5 a6 a7; clear K5 hB3 hl3 m6)
          | (go_at_call 34; have hx := K3.out; clear hx; refine (HC2.out _).mono ?_; rintro e w4 ⟨B2, rfl, hB2, hl2, m4⟩; have HB2 := Lib.hid hB2; have HL2 := Lib.hid hl2; have K4 := Lib.hid (K3.out.nil m4); obtain ⟨⟨a0, a1⟩, ⟨a2, a3, a4⟩, a5, a6, a7⟩ := K4.out.facts; clear f0 f1 f2 f3 f4 f5 f6 f7; have f0 := a0; have f1 := a1; have f2 := a2; have f3 := a3; have f4 := a4; have f5 := a5; have f6 := a6; have f7 := a7; clear a0 a1 a2 a3 a4 a5 a6 a7; obtain ⟨⟨e3, P3, vv⟩, h3⟩ : ∃ r, readBytes e2 B2 32768 = r := ⟨_, rfl⟩; have H3 := Lib.hid h3; have HC3 := Lib.hid (fun V => rbytes13 V B2 e2 (by have := HL1.out; omega) h3); clear K3 hB2 hl2 m4 h3)
          | (go_at_call 34; refine (HC1.out).mono ?_; rintro e w2 ⟨B1, rfl, hB1, hl1, m2⟩; skip; have HL1 := Lib.hid hl1; have K1 := Lib.hid (NEW.out.nil m2); obtain ⟨⟨a0, a1⟩, ⟨a2, a3, a4⟩, a5, a6, a7⟩ := K1.out.facts; clear f0 f1 f2 f3 f4 f5 f6 f7; have f0 := a0; have f1 := a1; have f2 := a2; have f3 := a3; have f4 := a4; have f5 := a5; have f6 := a6; have f7 := a7; clear a0 a1 a2 a3 a4 a5 a6 a7; obtain ⟨⟨e2, P2, bb⟩, h2⟩ : ∃ r, readUint e1 B1 = r := ⟨_, rfl⟩; have H2 := Lib.hid h2; have HC2 := Lib.hid (fun V => rread13 V B1 e1 (by omega) h2); clear hB1 hl1 m2 h2)
          | (refine wpList_store_mk rfl 84 (.tmp 4) (.tmp 28) rfl rfl g rfl 84 #[.string (strOf B), .int .i64 0] #[.string (strOf B1), .int .i64 e1] rfl K1.out.r rfl (by simp [Value.oneCell']) rr_info (by simp [Value.cells]) ?_; intro w3 b3 m3; obtain ⟨W3, hW3⟩ : ∃ W, w3.setCell ⟨h, 0, none⟩ (.int .u64 (s : Int)) = W := ⟨_, rfl⟩; have K2 := Lib.hid (K1.out.setR b3 m3); have K3 := Lib.hid (K2.out.setV 0 (.int .u64 (s : Int)) (s' := s) (b' := 0) (v' := []) rfl); rw [hW3] at K3; obtain ⟨⟨c0, c1⟩, ⟨c2, c3, c4⟩, c5, c6, c7⟩ := K2.out.facts; obtain ⟨⟨a0, a1⟩, ⟨a2, a3, a4⟩, a5, a6, a7⟩ := K3.out.facts; clear f0 f1 f2 f3 f4 f5 f6 f7; have f0 := a0; have f1 := a1; have f2 := a2; have f3 := a3; have f4 := a4; have f5 := a5; have f6 := a6; have f7 := a7; clear a0 a1 a2 a3 a4 a5 a6 a7; clear K1 b3 m3)
          | (refine wpList_store_mk rfl 84 (.tmp 4) (.tmp 54) rfl rfl g rfl 84 #[.string (strOf B1), .int .i64 e1] #[.string (strOf B2), .int .i64 e2] rfl K4.out.r rfl (by simp [Value.oneCell']) rr_info (by simp [Value.cells]) ?_; intro w5 b5 m5; obtain ⟨W5, hW5⟩ : ∃ W, w5.setCell ⟨h, 1, none⟩ (.int .u64 (bb : Int)) = W := ⟨_, rfl⟩; have K4' := Lib.hid (K4.out.setR b5 m5); have K5 := Lib.hid (K4'.out.setV 1 (.int .u64 (bb : Int)) (s' := s) (b' := bb) (v' := []) rfl); rw [hW5] at K5; obtain ⟨⟨c0, c1⟩, ⟨c2, c3, c4⟩, c5, c6, c7⟩ := K4'.out.facts; obtain ⟨⟨a0, a1⟩, ⟨a2, a3, a4⟩, a5, a6, a7⟩ := K5.out.facts; clear f0 f1 f2 f3 f4 f5 f6 f7; have f0 := a0; have f1 := a1; have f2 := a2; have f3 := a3; have f4 := a4; have f5 := a5; have f6 := a6; have f7 := a7; clear a0 a1 a2 a3 a4 a5 a6 a7; clear K4 b5 m5)
          | (refine wpList_store_mk rfl 84 (.tmp 4) (.tmp 61) rfl rfl g rfl 84 #[.string (strOf B2), .int .i64 e2] #[.string (strOf B3), .int .i64 e3] rfl K6.out.r rfl (by simp [Value.oneCell']) rr_info (by simp [Value.cells]) ?_; intro w7 b7 m7; obtain ⟨W7, hW7⟩ : ∃ W, w7.setCell ⟨h, 2, none⟩ (.string (strOf vv)) = W := ⟨_, rfl⟩; have K6' := Lib.hid (K6.out.setR b7 m7); have K7 := Lib.hid (K6'.out.setV 2 (.string (strOf vv)) (s' := s) (b' := bb) (v' := vv) rfl); rw [hW7] at K7; obtain ⟨⟨c0, c1⟩, ⟨c2, c3, c4⟩, c5, c6, c7⟩ := K6'.out.facts; obtain ⟨⟨a0, a1⟩, ⟨a2, a3, a4⟩, a5, a6, a7⟩ := K7.out.facts; clear f0 f1 f2 f3 f4 f5 f6 f7; have f0 := a0; have f1 := a1; have f2 := a2; have f3 := a3; have f4 := a4; have f5 := a5; have f6 := a6; have f7 := a7; clear a0 a1 a2 a3 a4 a5 a6 a7; clear K6 b7 m7)
          | (at_builtin; refine push_vt rfl _ _ rfl ⟨s, bb, vv⟩ rfl K7.out.own rfl (by omega) (by have := K7.out.mm.size; omega) ?_; intro v' w8 o8 m8; have O8 := Lib.hid o8; have M8 := Lib.hid (own_nilm K7.out.own (Nat.le_refl _) K7.out.mm m8); have B8 := Lib.hid (K7.out.r.mods m8 (fun e => own_blk_ne K7.out.own K7.out.r (by decide) e)); clear o8 m8))
        have hstep := vget_step (n := j1) H1.out (fun h => absurd h HE1.out) H2.out HB2.out H3.out HB3.out (out := l) (by rintro ⟨h, _⟩; exact HE1.out h)
        have HST := Lib.hid hstep
        clear hstep
        have hv2 := HV.out
        rw [← HJJ.out, HST.out] at hv2
        refine ⟨⟨j1, m + 1, B3, e3, l ++ [⟨s, bb, vv⟩], by have := HJ.out; have := HJJ.out; omega, rfl, hv2, by rw [List.length_append, HM.out]; rfl, by omega, (fun h3 => by exfalso; have h2 := H2.out; rw [readUint_err' HE1.out] at h2; injection h2 with h2 h2'; have h3' := H3.out; rw [readBytes_err (by rw [← h2]; exact HE1.out)] at h3'; injection h3' with h3' _; exact HE1.out (by rw [h2, h3', h3])), by have := HL1.out; have := HL2.out; have := HL3.out; omega, O8.out, B8.out, hgw, M8.out⟩, by have := HJJ.out; simp [intOf]; omega⟩
    · by_cases hE : E = 0
      · subst hE
        obtain rfl : j = 0 := by omega
        by_cases hB : B = []
        · subst hB
          have HRES : Hid (TE = 0 ∧ TL = l) := Lib.hid (by have h := HV.out; rw [vgetN_zero, if_pos rfl] at h; injection h with h1 h2; exact ⟨h1.symm, h2.symm⟩)
          have HEND : Hid (∀ V, Calls Try.prog 36 #[.agg #[.string (strOf []), .int .i64 0]] V fun e w' => e = .returned (.int .i64 0) ∧ Mods Nil V w') := Lib.hid (fun V => by have h := rend_any V [] 0; rw [if_pos rfl, if_pos rfl] at h; exact h)
          go_wp2_with (go_at_call 36; refine (HEND.out _).mono ?_; rintro e w2 ⟨rfl, m2⟩; have M2 := Lib.hid (HMO.out.trans m2); have MM2 := Lib.hid m2; clear m2)
          go_ret2
          obtain ⟨A2, c2, hv, r2, -⟩ := rvs_own HO.out HM.out
          subst hv
          have := HTOLD.out w2 A2 c2 m (by rw [HRES.out.2]; exact r2.nil MM2.out) (by omega) M2.out
          rw [HRES.out.1] at this
          exact this
        · have HRES : Hid (TE = 12 ∧ TL = []) := Lib.hid (by have h := HV.out; rw [vgetN_zero, if_neg hB] at h; injection h with h1 h2; exact ⟨h1.symm, h2.symm⟩)
          have HEND : Hid (∀ V, Calls Try.prog 36 #[.agg #[.string (strOf B), .int .i64 0]] V fun e w' => e = .returned (.int .i64 12) ∧ Mods Nil V w') := Lib.hid (fun V => by have h := rend_any V B 0; rw [if_pos rfl, if_neg hB] at h; exact h)
          go_wp2_with (go_at_call 36; refine (HEND.out _).mono ?_; rintro e w2 ⟨rfl, m2⟩; have M2 := Lib.hid (HMO.out.trans m2); have MM2 := Lib.hid m2; clear m2)
          go_ret2
          have := HTOLD.out w2 none 0 0 (by rw [HRES.out.2]; exact RVs.none_ _) (by omega) M2.out
          rw [HRES.out.1] at this
          exact this
      · have HRES : Hid (TE = E ∧ TL = []) := Lib.hid (by have h := HV.out; rw [vgetN_err _ hE] at h; injection h with h1 h2; exact ⟨h1.symm, h2.symm⟩)
        have hEI : (E == 0) = false := by rw [beq_eq_false_iff_ne]; exact hE
        have hEI2 : (E != 0) = true := by rw [bne_iff_ne]; exact hE
        by_cases hj0 : j = 0
        · subst hj0
          have HEND : Hid (∀ V, Calls Try.prog 36 #[.agg #[.string (strOf B), .int .i64 E]] V fun e w' => e = .returned (.int .i64 E) ∧ Mods Nil V w') := Lib.hid (fun V => by have h := rend_any V B E; rw [if_neg hE] at h; exact h)
          go_wp2_with (go_at_call 36; refine (HEND.out _).mono ?_; rintro e w2 ⟨rfl, m2⟩; have M2 := Lib.hid (HMO.out.trans m2); have MM2 := Lib.hid m2; clear m2)
          go_ret2
          have := HTOLD.out w2 none 0 0 (by rw [HRES.out.2]; exact RVs.none_ _) (by omega) M2.out
          rw [HRES.out.1] at this
          exact this
        · have hjI : decide ((0 : Int) < (j : Int)) = true := by simp; omega
          have hjN : decide (0 < j) = true := by simp; omega
          have HEND : Hid (∀ V, Calls Try.prog 36 #[.agg #[.string (strOf B), .int .i64 E]] V fun e w' => e = .returned (.int .i64 E) ∧ Mods Nil V w') := Lib.hid (fun V => by have h := rend_any V B E; rw [if_neg hE] at h; exact h)
          go_wp2_with (go_at_call 36; refine (HEND.out _).mono ?_; rintro e w2 ⟨rfl, m2⟩; have M2 := Lib.hid (HMO.out.trans m2); have MM2 := Lib.hid m2; clear m2)
          go_ret2
          have := HTOLD.out w2 none 0 0 (by rw [HRES.out.2]; exact RVs.none_ _) (by omega) M2.out
          rw [HRES.out.1] at this
          exact this
end Go.Proofs.Ythkejoabppocoaa
