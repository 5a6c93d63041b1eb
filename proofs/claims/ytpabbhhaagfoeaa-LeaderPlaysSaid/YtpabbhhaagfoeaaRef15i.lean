/- The reference of layer 15: Promise, heard (low above the first slot). Printed by wip/tools/gen15/promise.py. -/
import Derived.Test.YtpabbhhaagfoeaaRef15B
namespace Go.Proofs.Ytpabbhhaagfoeaa
set_option maxRecDepth 1000000
open Go.RowKit
set_option linter.unusedVariables false
set_option linter.unusedSimpArgs false
set_option maxHeartbeats 12800000 in
theorem r15hearI (w : World) (l : PLd) (p : LdA) {L : List ROp} (h : RL w l p L) (hg : l.good) (hpn : p.pn ≤ 1000) (hkn : p.kn ≤ 500000) (hon : p.on ≤ 500000) (nd b low : Nat) (hlo64 : low < 18446744073709551616) {A : Option Addr} {c n : Nat} {vs : List PVt} (hv : RVs w A c n vs) (hn : n ≤ 100000) (hvs : ∀ v ∈ vs, v.slot < 18446744073709551616 ∧ v.bal < 18446744073709551616) (hd : ¬ l.deaf (nd : Int) b) (hlow : l.first < low) :
    Calls Try.prog 14 #[.agg (ldC l p), .int .i64 (nd : Int), .int .u64 (b : Int), .int .u64 (low : Int), .slice A n c] w (RPrm w l p L (nd : Int) b low n vs) := by
  obtain ⟨i0, hi0, hz0, hz1, hz2⟩ := info_parts infoVt
  have HE := Lib.hid (promise_hearsR hd low vs)
  rw [show (nd : Int).toNat = nd from by omega] at HE
  have hnin : nd ∉ l.prom := fun hm => hd (.inr (.inr (.inr (.inr (by simpa using hm)))))
  have HIN : Hid (∀ V, Mods Nil w V → Calls Try.prog 43 #[.slice p.pA p.pn p.pc, .int .i64 (nd : Int)] V fun e w' => e = .returned (.bool false) ∧ Mods Nil V w') := Lib.hid (fun V hV => by
    have := r15in_any V (h.prom.nil hV) (by omega) (nd : Int)
    rw [show decide (0 ≤ (nd : Int) ∧ (nd : Int).toNat ∈ l.prom) = false from decide_eq_false (by rintro ⟨_, h2⟩; exact hnin (by simpa using h2))] at this
    exact this)
  have g1 : ((l.stage : Int) != 1) = false := by unfold PLd.deaf at hd; simp; omega
  have g2 : ((b : Int) != (l.bal : Int)) = false := by unfold PLd.deaf at hd; simp; omega
  have g3 : ¬ (nd : Int) < 0 := by omega
  have g4 : ¬ (l.many : Int) ≤ (nd : Int) := by unfold PLd.deaf at hd; omega
  have hst : l.stage = 1 := by unfold PLd.deaf at hd; omega
  obtain ⟨F, hF⟩ : ∃ F, l.first = F := ⟨_, rfl⟩
  obtain ⟨F', hF'⟩ : ∃ F', low = F' := ⟨_, rfl⟩
  have HFF : Hid (max l.first low = F') := Lib.hid (by rw [← hF'] ; omega)
  have g5 : decide ((low : Int) > (F : Int)) = true := by simp; omega
  have g5n : decide (F < low) = true := by simp; omega
  have g5p : decide ((F : Int) < (low : Int)) = true := by simp; omega
  have g5q : (F : Int) < (low : Int) := by omega
  have b1 := (Blk.new w 33 (ldC l p)).alloc (.cells #[.int .i64 0, .int .i64 0, .int .u64 0, .int .u64 0, .int .u64 0, .slice none 0 0, .slice none 0 0, .slice none 0 0] 33)
  have b2 := Blk.new (w.alloc (.cells (ldC l p) 33)) 33 #[.int .i64 0, .int .i64 0, .int .u64 0, .int .u64 0, .int .u64 0, .slice none 0 0, .slice none 0 0, .slice none 0 0]
  have m1 : Mods Nil w ((w.alloc (.cells (ldC l p) 33)).alloc (.cells #[.int .i64 0, .int .i64 0, .int .u64 0, .int .u64 0, .int .u64 0, .slice none 0 0, .slice none 0 0, .slice none 0 0] 33)) := ((Mods.refl Nil w).alloc _).alloc _
  simp only [World.size_alloc] at b2
  have hsz1 : ((w.alloc (.cells (ldC l p) 33)).alloc (.cells #[.int .i64 0, .int .i64 0, .int .u64 0, .int .u64 0, .int .u64 0, .slice none 0 0, .slice none 0 0, .slice none 0 0] 33)).heap.size = w.heap.size + 2 := by simp
  obtain ⟨w1, hw1⟩ : ∃ w1, (w.alloc (.cells (ldC l p) 33)).alloc (.cells #[.int .i64 0, .int .i64 0, .int .u64 0, .int .u64 0, .int .u64 0, .slice none 0 0, .slice none 0 0, .slice none 0 0] 33) = w1 := ⟨_, rfl⟩
  rw [hw1] at b1 b2 m1 hsz1
  obtain ⟨y0, y1, y2, y3, y4, y5, y6, y7⟩ := b1.eight
  obtain ⟨k1, hk1⟩ : ∃ k1, p.pn + 1 = k1 := ⟨_, rfl⟩
  have hk1b : k1 ≤ 1001 := by omega
  have HKL : Hid ((l.prom ++ [nd]).length = k1) := Lib.hid (by rw [List.length_append, h.prom.len]; exact hk1)
  have HK1 := Lib.hid hk1
  have B1 := Lib.hid b1
  have B2 := Lib.hid b2
  have M1 := Lib.hid m1
  have HSZ1 := Lib.hid hsz1
  have HP := Lib.hid (h.prom.nil m1)
  have HKN := Lib.hid (h.known.nil m1)
  have HON := Lib.hid (h.opn.nil m1)
  have HV := Lib.hid (hv.nil m1)
  have HG := Lib.hid hg
  have HST := Lib.hid hst
  have HVS := Lib.hid hvs
  have HFE := Lib.hid hF
  have HFE' := Lib.hid hF'
  clear h hd hv hg hst hvs hnin b1 b2 m1 hsz1 hF hF' hlow hk1
  go_enter Try.func14, Try.ntmps14
  go_wp2_with (first
    | (go_at_call 43; refine (HIN.out _ M1.out).mono ?_; rintro e w2 ⟨rfl, m2⟩; have M2 := Lib.hid m2; obtain ⟨z0, z1, z2, z3, z4, z5, z6, z7⟩ := (B1.out.mods m2 (fun h => h)).eight; have HP2 := Lib.hid (HP.out.nil m2); clear m2)
    | (at_builtin; refine copy_who rfl _ _ rfl (W := w2) (base := w2.heap.size) rfl rfl HP2.out (by omega) (Nat.le_refl _) ?_; intro v3 w3 o3 m3; have O3 := Lib.hid o3; have M3 := Lib.hid m3; clear o3 m3)
    | (at_builtin; refine push_who rfl _ _ rfl (W := w3) nd rfl O3.out rfl (by omega) M3.out.size ?_; intro v4 w4 o4 m4; rw [HK1.out] at o4; obtain ⟨A4, c4, rfl, r4, a4⟩ := rns_own o4 HKL.out; have m14 : Mods Nil w1 w4 := (M2.out.trans M3.out).nil_trans m4 (fun q hq => by have := (O3.out.lt q hq).1; have := M2.out.size; omega); have bl4 := B1.out.mods m14 (fun h => h); obtain ⟨x0, x1, x2, x3, x4, x5, x6, x7⟩ := bl4.eight; rw [HFE.out] at x3; have f5 := bl4.frozen 5; have f3 := bl4.frozen 3; have m45 : Mods (fun k => k = w.heap.size) w4 ((w4.setCell ⟨w.heap.size, 5, none⟩ (.slice A4 k1 c4)).setCell ⟨w.heap.size, 3, none⟩ (.int .u64 (low : Int))) := ((set_mods15 w4 w.heap.size 5 (.slice A4 k1 c4)).setCell (p := ⟨w.heap.size, 3, none⟩) (fun _ => rfl) (.int .u64 (low : Int))); have b5 := ((bl4.set_ 5 (.slice A4 k1 c4)).set_ 3 (.int .u64 (low : Int))); obtain ⟨w5, hw5⟩ : ∃ w5, ((w4.setCell ⟨w.heap.size, 5, none⟩ (.slice A4 k1 c4)).setCell ⟨w.heap.size, 3, none⟩ (.int .u64 (low : Int))) = w5 := ⟨_, rfl⟩; rw [hw5] at m45 b5; simp only [List.setIfInBounds_toArray, List.set_cons_zero, List.set_cons_succ] at b5; have R4 := Lib.hid (r4.mods m45 (fun a ha e => by obtain ⟨cs, hb⟩ := r4.ty a ha; rw [e] at hb; exact blk_two hb bl4 (by decide))); have A4N := Lib.hid a4; have M15 : Hid (Mods (fun k => k = w.heap.size) w1 w5) := Lib.hid ((m14.mono (fun _ _ h => h.elim)).trans m45); have B5 := Lib.hid b5; obtain ⟨q0, q1, q2, q3, q4, q5, q6, q7⟩ := b5.eight; (try rw [HFE.out] at q3); have HKN5 := Lib.hid (HKN.out.mods M15.out (fun a ha e => by obtain ⟨cs, hb⟩ := HKN.out.ty a ha; rw [e] at hb; exact blk_two hb B1.out (by decide))); clear o4 m4 r4 a4 m14 m45 b5 bl4)
    | (at_builtin; refine wpList_append_sls _ rfl _ _ 30 rfl w5.heap.size 53 i0 (.agg #[.int .u64 0, .int .u64 0, .string ⟨#[]⟩]) 3 32 Try.underlying30 hi0 hz0 hz1 hz2 rfl (by decide) rfl rfl HKN5.out.sl (vtCs_one15 _) (by omega) (Nat.le_refl _) ?_; intro v6 w6 o6 m6; have O6 := Lib.hid o6; have M6 := Lib.hid m6; clear o6 m6))
  have BL5 : Hid (Blk w5 w.heap.size 33 #[.int .i64 (l.many : Int), .int .i64 (l.stage : Int), .int .u64 (l.bal : Int), .int .u64 (F' : Int), .int .u64 (l.next : Int), .slice A4 k1 c4, .slice p.kA p.kn p.kc, .slice p.oA p.on p.oc]) := Lib.hid (by
    have := B5.out
    first
    | (rw [← HFE'.out]; exact this)
    | (rw [← HFE'.out, ← HFE.out]; exact this))
  have BR5 : Hid (Blk w5 (w.heap.size + 1) 33 #[.int .i64 0, .int .i64 0, .int .u64 0, .int .u64 0, .int .u64 0, .slice none 0 0, .slice none 0 0, .slice none 0 0]) := Lib.hid (B2.out.mods M15.out (fun e => by omega))
  have HV5 := Lib.hid (HV.out.mods M15.out (fun a ha e => by obtain ⟨cs, hb⟩ := HV.out.ty a ha; rw [e] at hb; exact blk_two hb B1.out (by decide)))
  have HW5 : Hid (Mods Nil w w5) := Lib.hid (M1.out.nil_trans M15.out (fun i e => by omega))
  have hgl : w.heap.size + 2 ≤ w5.heap.size := by have := HSZ1.out; have := M15.out.size; omega
  have HGL := Lib.hid hgl
  obtain ⟨KN, hKN⟩ : ∃ KN, p.kn = KN := ⟨_, rfl⟩
  rw [hKN] at O6 hkn
  have HKNE := Lib.hid hKN
  have HKL0 : Hid (l.known.length = KN) := Lib.hid (by rw [HKN.out.len]; exact hKN)
  have HM6 : Hid (Mods (fun k => w5.heap.size ≤ k) w5 w6) := Lib.hid (M6.out.mono (fun _ _ h => h.elim))
  clear y0 y1 y2 y3 y4 y5 y6 y7 z0 z1 z2 z3 z4 z5 z6 z7 x0 x1 x2 x3 x4 x5 x6 x7 q0 q1 q2 q3 q4 q5 q6 q7 f5 f3 hw1 hw5 g1 g2 g3 g4 g5 g5n g5p g5q hKN hgl
  go_loopw [14, 15] (fun v x wr => ∃ (i m : Nat) (K : List PVt), i ≤ n ∧ x = .int .i64 (i : Int) ∧ Hid (noteVs l.known (vs.take i) = K) ∧ K.length = m ∧ m ≤ KN + i ∧ Hid (wr.ownsRow w5.heap.size 53 3 v m (vtCs K)) ∧ Hid (Mods (fun k => w5.heap.size ≤ k) w5 wr)) (fun _ x _ => n - (intOf x).toNat)
  case atStart => exact ⟨0, KN, l.known, Nat.zero_le _, rfl, Lib.hid rfl, HKL0.out, by omega, O6, HM6⟩
  case round =>
    obtain ⟨i, m, K, hi, rfl, HK, hKm, hmi, HO, HM⟩ := hrel
    by_cases hlt : i < n
    · have hltI : (i : Int) < (n : Int) := by omega
      have hiv : i < vs.length := by rw [HV5.out.len]; exact hlt
      obtain ⟨bv, ov, rfl, hbv, c0, c1, c2⟩ := (HV5.out.mods HM.out (fun a ha e => by obtain ⟨cs, hb⟩ := HV5.out.ty a ha; have := hb.lt; omega)).at_ hlt
      have hvi : vs[i]? = some vs[i] := List.getElem?_eq_getElem hiv
      obtain ⟨v, hve⟩ : ∃ v, vs[i] = v := ⟨_, rfl⟩
      rw [hve] at c0 c1 c2 hvi
      have HVI := Lib.hid hvi
      have hbv5 : bv < w5.heap.size := by
        obtain ⟨cs, hb⟩ := HV5.out.ty _ rfl
        exact hb.lt
      obtain ⟨s, bl, vv⟩ := v
      simp only at c0 c1 c2
      obtain ⟨Ak, ck, rfl, hrk, hak⟩ := rvs_own HO.out hKm
      have HFD := Lib.hid (r15find_any wr hrk (by omega) s)
      have HNT : Hid (noteVs l.known (vs.take (i + 1)) = noteV K ⟨s, bl, vv⟩) := Lib.hid (by rw [← HK.out]; exact noteVs_take HVI.out)
      have HKM := Lib.hid hKm
      have HCV := Lib.hid (And.intro c0 (And.intro c1 c2))
      clear hiv hvi hve hrk hak hKm c0 c1 c2
      cases hx : idxV K s with
      | none =>
        have e0 : idxI K s = -1 := by unfold idxI; rw [hx]
        rw [e0] at HFD
        have HNV := Lib.hid (noteV_none (known := K) (v := ⟨s, bl, vv⟩) hx)
        clear hx e0
        obtain ⟨c0, c1, c2⟩ := HCV.out
        go_wp2_with (first
          | (go_at_call 44; refine HFD.out.mono ?_; rintro e w7 ⟨rfl, m7⟩; have M7 := Lib.hid m7; have c0' := (World.cell?_of_block (a := ⟨bv, ov + i * 3, none⟩) (m7.block bv (by have := HM.out.size; omega) (fun h => h))).trans c0; have c1' := (World.cell?_of_block (a := ⟨bv, ov + i * 3 + 1, none⟩) (m7.block bv (by have := HM.out.size; omega) (fun h => h))).trans c1; have c2' := (World.cell?_of_block (a := ⟨bv, ov + i * 3 + 2, none⟩) (m7.block bv (by have := HM.out.size; omega) (fun h => h))).trans c2; have HO7 := Lib.hid (own_mods HO.out m7 (fun _ _ h => h)); clear m7)
          | (at_builtin; refine push_vt rfl _ _ rfl ⟨s, bl, vv⟩ rfl HO7.out rfl (by omega) (by have := HM.out.size; have := M7.out.size; omega) ?_; intro v8 w8 o8 m8; have O8 := Lib.hid o8; have M8 := Lib.hid m8; clear o8 m8))
        refine ⟨⟨i + 1, m + 1, K ++ [⟨s, bl, vv⟩], by omega, by go_num, Lib.hid (by rw [HNT.out, HNV.out]), by rw [List.length_append, HKM.out]; rfl, by omega, O8, Lib.hid ?_⟩, by simp [intOf]; omega⟩
        exact ((HM.out.trans (M7.out.mono (fun _ _ h => h.elim))).trans (M8.out.mono (fun k _ e => (HO7.out.lt k e).1)))
      | some j =>
        have e0 : idxI K s = (j : Int) := by unfold idxI; rw [hx]
        rw [e0] at HFD
        obtain ⟨y, hy, hys, -, hjK⟩ := idxV_some hx
        have hjm : j < m := by rw [← HKM.out]; exact hjK
        have hjmI : (j : Int) < (m : Int) := by omega
        have hjn : ¬ (j : Int) < 0 := by omega
        obtain ⟨gk, capk, ek, hgk, hgkl, d0, d1, d2, hfz⟩ := vt_place HO.out HKM.out hjm
        injection ek with ek1 ek2 ek3
        subst ek1
        have hyj : K[j] = y := by rw [List.getElem?_eq_getElem hjK] at hy; injection hy
        rw [hyj] at d0 d1 d2
        obtain ⟨c0, c1, c2⟩ := HCV.out
        have hne : bv ≠ gk := by omega
        have HJK := Lib.hid hjK
        by_cases hyb : y.bal < bl
        · have HNV := Lib.hid (noteV_set (known := K) (v := ⟨s, bl, vv⟩) hx hy hyb)
          have g6 : decide ((y.bal : Int) < (bl : Int)) = true := by simp; omega
          have g6n : decide (y.bal < bl) = true := by simp; omega
          clear hx e0 hy hys hyj ek2 ek3 hyb hjK
          go_wp2_with (first
            | (go_at_call 44; refine HFD.out.mono ?_; rintro e w7 ⟨rfl, m7⟩; have M7 := Lib.hid m7; have c0' := (World.cell?_of_block (a := ⟨bv, ov + i * 3, none⟩) (m7.block bv (by have := HM.out.size; omega) (fun h => h))).trans c0; have c1' := (World.cell?_of_block (a := ⟨bv, ov + i * 3 + 1, none⟩) (m7.block bv (by have := HM.out.size; omega) (fun h => h))).trans c1; have c2' := (World.cell?_of_block (a := ⟨bv, ov + i * 3 + 2, none⟩) (m7.block bv (by have := HM.out.size; omega) (fun h => h))).trans c2; have d0' := (World.cell?_of_block (a := ⟨gk, j * 3, none⟩) (m7.block gk hgkl (fun h => h))).trans d0; have d1' := (World.cell?_of_block (a := ⟨gk, j * 3 + 1, none⟩) (m7.block gk hgkl (fun h => h))).trans d1; have d2' := (World.cell?_of_block (a := ⟨gk, j * 3 + 2, none⟩) (m7.block gk hgkl (fun h => h))).trans d2; have fz : ∀ q, w7.frozen? ⟨gk, q, none⟩ = false := fun q => (World.frozen?_of_block (a := ⟨gk, q, none⟩) (m7.block gk hgkl (fun h => h))).trans (hfz q); have HO7 := Lib.hid (own_mods HO.out m7 (fun _ _ h => h)); clear m7))
          go_quiet (fail)
          go_wp2_with fail
          have o3 := own_cell_set (own_cell_set (own_cell_set (own_mods HO7.out ((Mods.refl Nil w7).drewN nq) (fun _ _ h => h)) (j * 3) (.int .u64 (s : Int))) (j * 3 + 1) (.int .u64 (bl : Int))) (j * 3 + 2) (.string (strOf vv))
          have e3 := vtCs_set K j ⟨s, bl, vv⟩ HJK.out
          simp only at e3
          rw [e3] at o3
          exact ⟨⟨i + 1, m, K.set j ⟨s, bl, vv⟩, by omega, by go_num, Lib.hid (by rw [HNT.out, HNV.out]), by rw [List.length_set]; exact HKM.out, by omega, Lib.hid o3, Lib.hid (Mods.setCell (S := fun k => w5.heap.size ≤ k) (Mods.setCell (S := fun k => w5.heap.size ≤ k) (Mods.setCell (S := fun k => w5.heap.size ≤ k) ((HM.out.trans (M7.out.mono (fun _ _ h => h.elim))).drewN _) (fun _ => hgk) _) (fun _ => hgk) _) (fun _ => hgk) _)⟩, by simp [intOf]; omega⟩
        · have HNV := Lib.hid (noteV_same (known := K) (v := ⟨s, bl, vv⟩) hx hy hyb)
          have g6 : decide ((y.bal : Int) < (bl : Int)) = false := by simp; omega
          have g6n : decide (y.bal < bl) = false := by simp; omega
          clear hx e0 hy hys hyj ek2 ek3 hyb hjK
          go_wp2_with (first
            | (go_at_call 44; refine HFD.out.mono ?_; rintro e w7 ⟨rfl, m7⟩; have M7 := Lib.hid m7; have c1' := (World.cell?_of_block (a := ⟨bv, ov + i * 3 + 1, none⟩) (m7.block bv (by have := HM.out.size; omega) (fun h => h))).trans c1; have d1' := (World.cell?_of_block (a := ⟨gk, j * 3 + 1, none⟩) (m7.block gk hgkl (fun h => h))).trans d1; have HO7 := Lib.hid (own_mods HO.out m7 (fun _ _ h => h)); clear m7))
          go_quiet (fail)
          go_wp2_with fail
          exact ⟨⟨i + 1, m, K, by omega, by go_num, Lib.hid (by rw [HNT.out, HNV.out]), HKM.out, by omega, Lib.hid (own_mods HO7.out ((Mods.refl Nil _).drewN _) (fun _ _ h => h)), Lib.hid ((HM.out.trans (M7.out.mono (fun _ _ h => h.elim))).drewN _)⟩, by simp [intOf]; omega⟩
    · obtain rfl : n = i := by omega
      have HKA : Hid (noteVs l.known vs = K) := Lib.hid (by rw [← HK.out, List.take_of_length_le (by rw [HV5.out.len]; exact Nat.le_refl _)])
      obtain ⟨Ak, ck, rfl, hrk, hak⟩ := rvs_own HO.out hKm
      have hgl := HGL.out
      have blr := BL5.out.mods HM.out (by omega)
      obtain ⟨x0, x1, x2, x3, x4, x5, x6, x7⟩ := blr.eight
      have f6 := blr.frozen 6
      have m8 := set_mods15 wr w.heap.size 6 (.slice Ak m ck)
      have b8 := blr.set_ 6 (.slice Ak m ck)
      obtain ⟨w8, hw8⟩ : ∃ w8, wr.setCell ⟨w.heap.size, 6, none⟩ (.slice Ak m ck) = w8 := ⟨_, rfl⟩
      rw [hw8] at m8 b8
      simp only [List.setIfInBounds_toArray, List.set_cons_zero, List.set_cons_succ] at b8
      have M58 : Hid (Mods (fun k => k = w.heap.size ∨ w5.heap.size ≤ k) w5 w8) := Lib.hid ((HM.out.mono (fun k _ h => .inr h)).trans (m8.mono (fun k _ h => .inl h)))
      have RK8 := Lib.hid (hrk.mods m8 (fun a ha e => by have := hak a ha; omega))
      have B8 := Lib.hid b8
      have HAK := Lib.hid hak
      have HKM := Lib.hid hKm
      obtain ⟨q0, q1, q2, q3, q4, q5, q6, q7⟩ := b8.eight
      obtain ⟨m2, hm2⟩ : ∃ m2, l.many / 2 = m2 := ⟨_, rfl⟩
      have hmy : l.many ≤ 32 := HG.out.many2
      have hqt : (l.many : Int).tdiv 2 = (m2 : Int) := by rw [Int.tdiv_eq_ediv_of_nonneg (by omega)]; omega
      have hm2b : m2 ≤ 16 := by omega
      have HM2 := Lib.hid hm2
      have BR8 := Lib.hid ((BR5.out.mods HM.out (by omega)).mods m8 (fun e => by omega))
      have R8 := Lib.hid (R4.out.mods M58.out (fun a ha e => by
        obtain ⟨cs, hb⟩ := R4.out.ty a ha
        rcases e with e | e
        · rw [e] at hb; exact blk_two hb BL5.out (by decide)
        · have := hb.lt; omega))
      have HW8 : Hid (Mods Nil w w8) := Lib.hid (HW5.out.nil_trans M58.out (fun k hk => by have := HW5.out.size; rcases hk with hk | hk <;> omega))
      have hNL : l.note nd low vs = { l with prom := l.prom ++ [nd], first := F', known := K } := by unfold PLd.note; rw [HFF.out, HKA.out]
      have HNL := Lib.hid hNL
      have HON8 := Lib.hid (HON.out.mods (((M15.out.mono (fun k _ e => .inl e)).trans2 M58.out (fun k hk e => by rcases e with e | e; exact .inl e; exact .inr e)) : Mods (fun k => k = w.heap.size ∨ w5.heap.size ≤ k) w1 w8) (fun a ha e => by
        obtain ⟨cs, hb⟩ := HON.out.ty a ha
        rcases e with e | e
        · rw [e] at hb; exact blk_two hb B1.out (by decide)
        · have := hb.lt; have := M15.out.size; omega) (fun y hy a ha e => by
        obtain ⟨cs, hb⟩ := (HON.out.who y hy).ty a ha
        rcases e with e | e
        · rw [e] at hb; exact blk_two hb B1.out (by decide)
        · have := hb.lt; have := M15.out.size; omega))
      clear hKm blr m8 b8 hak hrk hm2 hNL hgl
      by_cases hfew : k1 ≤ m2
      · have hfI : decide ((k1 : Int) ≤ (m2 : Int)) = true := by simp; omega
        have hfN : decide (k1 ≤ m2) = true := by simp; omega
        have HT : Hid ((l.note nd low vs).tally = l.note nd low vs ∧ (l.note nd low vs).tallyV = [] ∧ (l.note nd low vs).tallyB = false) := by
          have hh : (l.note nd low vs).prom.length ≤ (l.note nd low vs).many / 2 := by
            show (l.prom ++ [nd]).length ≤ l.many / 2
            rw [HKL.out, HM2.out]; exact hfew
          exact Lib.hid ⟨if_pos hh, if_pos hh, if_pos hh⟩
        clear hfew
        go_wp2_with (refine wpList_store_mk rfl 33 (.tmp 10) (.tmp 118) rfl rfl (w.heap.size + 1) rfl 33 _ #[.int .i64 (l.many : Int), .int .i64 (l.stage : Int), .int .u64 (l.bal : Int), .int .u64 (F' : Int), .int .u64 (l.next : Int), .slice A4 k1 c4, .slice Ak m ck, .slice p.oA p.on p.oc] rfl BR8.out rfl (by simp [Value.oneCell']) ld_info (by simp [Value.cells]) ?_; intro w9 b9 m9; have B9 := Lib.hid b9; have M9 := Lib.hid m9; clear b9 m9)
        obtain ⟨r0, r1, r2, r3, r4, r5, r6, r7⟩ := B9.out.eight
        refine bodyPost_ret (v := .tuple #[.agg #[.int .i64 (l.many : Int), .int .i64 (l.stage : Int), .int .u64 (l.bal : Int), .int .u64 (F' : Int), .int .u64 (l.next : Int), .slice A4 k1 c4, .slice Ak m ck, .slice p.oA p.on p.oc], .slice none 0 0, .bool false]) (by simp [results, Try.results14, go_sem, r0, r1, r2, r3, r4, r5, r6, r7]) rfl ?_
        have hw9 : Mods Nil w w9 := HW8.out.nil_trans M9.out (fun k e => by omega)
        refine ⟨{ pA := A4, pn := k1, pc := c4, kA := Ak, kn := m, kc := ck, oA := p.oA, on := p.on, oc := p.oc }, L, none, 0, 0, ?_, ?_, ?_, ⟨?_, ?_, ?_⟩, ?_, ?_, ?_, fun x hx a ha => .inl ⟨x, hx, ha⟩, hw9⟩
        · rw [HE.out.1, HE.out.2.2, HT.out.1, HT.out.2.2, HNL.out]
        · rw [HE.out.1, HT.out.1, HNL.out]
          refine ⟨R8.out.mods M9.out (fun a ha e => ?_), RK8.out.mods M9.out (fun a ha e => ?_), HON8.out.mods M9.out (fun a ha e => ?_) (fun y hy a ha e => ?_)⟩
          · obtain ⟨cs, hb⟩ := R8.out.ty a ha; rw [e] at hb; exact blk_two hb BR8.out (by decide)
          · obtain ⟨cs, hb⟩ := RK8.out.ty a ha; rw [e] at hb; exact blk_two hb BR8.out (by decide)
          · obtain ⟨cs, hb⟩ := HON8.out.ty a ha; rw [e] at hb; exact blk_two hb BR8.out (by decide)
          · obtain ⟨cs, hb⟩ := (HON8.out.who y hy).ty a ha; rw [e] at hb; exact blk_two hb BR8.out (by decide)
        · rw [HE.out.2.1, HT.out.2.1]; exact RVs.none_ _
        · show k1 ≤ p.pn + 1; have := HK1.out; omega
        · show m ≤ p.kn + n; have := HKNE.out; omega
        · show p.on ≤ p.on + 4096; omega
        · intro a ha
          exact .inr (by have := A4N.out a ha; have := M1.out.size; have := M2.out.size; omega)
        · intro a ha
          exact .inr (by have := HAK.out a ha; have := HW5.out.size; omega)
        · exact fun a ha => .inl ha
      · have hfI : decide ((k1 : Int) ≤ (m2 : Int)) = false := by simp; omega
        have hfN : decide (k1 ≤ m2) = false := by simp; omega
        have HFEW : Hid (¬ (l.note nd low vs).prom.length ≤ (l.note nd low vs).many / 2) := Lib.hid (by
          show ¬ (l.prom ++ [nd]).length ≤ l.many / 2
          rw [HKL.out, HM2.out]; exact hfew)
        clear hfew
        have HSTOP : Hid (∀ V, Calls Try.prog 23 #[.agg #[.int .i64 (l.many : Int), .int .i64 (l.stage : Int), .int .u64 (l.bal : Int), .int .u64 (F' : Int), .int .u64 (l.next : Int), .slice A4 k1 c4, .slice Ak m ck, .slice p.oA p.on p.oc]] V fun e w' => e = .returned (.agg #[.int .i64 (l.many : Int), .int .i64 0, .int .u64 (l.bal : Int), .int .u64 (F' : Int), .int .u64 (l.next : Int), .slice A4 k1 c4, .slice Ak m ck, .slice none 0 0]) ∧ Mods Nil V w') := Lib.hid (fun V => r15stop_any V { l with prom := l.prom ++ [nd], first := F', known := K } { pA := A4, pn := k1, pc := c4, kA := Ak, kn := m, kc := ck, oA := p.oA, on := p.on, oc := p.oc })
        have HSLT : Hid (∀ v ∈ K, v.slot < 18446744073709551616) := Lib.hid (by
          intro v hvk
          rw [← HKA.out] at hvk
          rcases noteVs_mem hvk with h1 | h1
          · exact (HVS.out v h1).1
          · exact (HG.out.known v h1).1)
        have hF64 : F' < 18446744073709551616 := by rw [← HFE'.out]; exact hlo64
        go_wp2_with fail
        clear hw8 x0 x1 x2 x3 x4 x5 x6 x7 f6 HO HM
        obtain ⟨wo, hwo⟩ : ∃ x, x = wr := ⟨_, rfl⟩
        subst hwo
        go_loopw [17, 18] (fun e x wr => ∃ (i E : Nat), e = .int .u64 (E : Int) ∧ x = .int .i64 (i : Int) ∧ i ≤ m ∧ Hid (endV F' (K.take i) = E) ∧ Hid (∀ v ∈ K.take i, ¬ farV F' v) ∧ wr = w8) (fun _ x _ => m - (intOf x).toNat)
        case atStart => exact ⟨0, F', rfl, rfl, Nat.zero_le _, Lib.hid rfl, Lib.hid (fun v hv => by simp at hv), rfl⟩
        case round =>
          obtain ⟨i, E, rfl, rfl, hi2, HEE, HNF, rfl⟩ := hrel
          by_cases hlt2 : i < m
          · have hltI : (i : Int) < (m : Int) := by omega
            have hiK : i < K.length := by rw [HKM.out]; exact hlt2
            obtain ⟨bk, okk, rfl, hbk, d0, d1, d2⟩ := RK8.out.at_ hlt2
            have hKi : K[i]? = some K[i] := List.getElem?_eq_getElem hiK
            obtain ⟨y, hye⟩ : ∃ y, K[i] = y := ⟨_, rfl⟩
            rw [hye] at d0 hKi
            have HTK : Hid (K.take (i + 1) = K.take i ++ [y]) := Lib.hid (by rw [List.take_add_one, hKi]; rfl)
            have HYM : Hid (y ∈ K) := Lib.hid (List.mem_of_getElem? hKi)
            have hy64 := HSLT.out y HYM.out
            obtain ⟨s, hs⟩ : ∃ s, y.slot = s := ⟨_, rfl⟩
            rw [hs] at d0 hy64
            have HS := Lib.hid hs
            clear d1 d2 hKi hye hiK hs
            by_cases hsF : s < F'
            · have g6 : decide ((s : Int) < (F' : Int)) = true := by simp; omega
              have g6n : decide (s < F') = true := by simp; omega
              go_wp2_with fail
              refine ⟨⟨i + 1, E, rfl, by go_num, by omega, Lib.hid ?_, Lib.hid ?_, by first | rfl | trivial⟩, by simp [intOf]; omega⟩
              · rw [HTK.out, endV_snoc, if_neg (by rw [HS.out]; omega), HEE.out]
              · intro v hv
                rw [HTK.out] at hv
                rcases List.mem_append.1 hv with hv | hv
                · exact HNF.out v hv
                · rw [List.mem_singleton.1 hv]
                  rintro ⟨h1, _⟩
                  rw [HS.out] at h1; omega
            · have g6 : decide ((s : Int) < (F' : Int)) = false := by simp; omega
              have g6n : decide (s < F') = false := by simp; omega
              by_cases hlast : s = 18446744073709551615
              · have g7 : ((s : Int) == 18446744073709551615) = true := by rw [hlast]; rfl
                have g7n : (s == 18446744073709551615) = true := by rw [hlast]; rfl
                have HFAR : Hid (farV F' y) := Lib.hid ⟨by rw [HS.out]; omega, .inl (by rw [HS.out]; exact hlast)⟩
                clear hlast
                have HTF : Hid ((l.note nd low vs).tally = (l.note nd low vs).stop ∧ (l.note nd low vs).tallyV = [] ∧ (l.note nd low vs).tallyB = false) := by
                  have ht : (l.note nd low vs).tooFar := by
                    rw [HNL.out]
                    exact ⟨y, HYM.out, HFAR.out⟩
                  refine Lib.hid ⟨?_, ?_, ?_⟩
                  · unfold PLd.tally; rw [if_neg HFEW.out, if_pos ht]
                  · unfold PLd.tallyV; rw [if_neg HFEW.out, if_pos ht]
                  · unfold PLd.tallyB; rw [if_neg HFEW.out, if_pos ht]
                go_wp2_with (first
                  | (go_at_call 23; refine (HSTOP.out _).mono ?_; rintro e w9 ⟨rfl, m9⟩; have M9 := Lib.hid m9; have BR9 := Lib.hid (BR8.out.mods m9 (fun h => h)); clear m9)
                  | (refine wpList_store_mk rfl 33 (.tmp 10) (.tmp 146) rfl rfl (w.heap.size + 1) rfl 33 _ #[.int .i64 (l.many : Int), .int .i64 0, .int .u64 (l.bal : Int), .int .u64 (F' : Int), .int .u64 (l.next : Int), .slice A4 k1 c4, .slice (some ⟨bk, okk, none⟩) m ck, .slice none 0 0] rfl BR9.out rfl (by simp [Value.oneCell']) ld_info (by simp [Value.cells]) ?_; intro w10 b10 m10; have B10 := Lib.hid b10; have M10 := Lib.hid m10; clear b10 m10))
                obtain ⟨r0, r1, r2, r3, r4, r5, r6, r7⟩ := B10.out.eight
                refine bodyPost_ret (v := .tuple #[.agg #[.int .i64 (l.many : Int), .int .i64 0, .int .u64 (l.bal : Int), .int .u64 (F' : Int), .int .u64 (l.next : Int), .slice A4 k1 c4, .slice (some ⟨bk, okk, none⟩) m ck, .slice none 0 0], .slice none 0 0, .bool false]) (by simp [results, Try.results14, go_sem, r0, r1, r2, r3, r4, r5, r6, r7]) rfl ?_
                have hw10 : Mods Nil w w10 := (HW8.out.trans M9.out).nil_trans M10.out (fun k e => by omega)
                refine ⟨{ pA := A4, pn := k1, pc := c4, kA := some ⟨bk, okk, none⟩, kn := m, kc := ck, oA := none, on := 0, oc := 0 }, [], none, 0, 0, ?_, ?_, ?_, ⟨?_, ?_, ?_⟩, ?_, ?_, ?_, fun x hx => (by cases hx), hw10⟩
                · rw [HE.out.1, HE.out.2.2, HTF.out.1, HTF.out.2.2, HNL.out]
                  rfl
                · rw [HE.out.1, HTF.out.1, HNL.out]
                  refine ⟨(R8.out.nil M9.out).mods M10.out (fun a ha e => ?_), (RK8.out.nil M9.out).mods M10.out (fun a ha e => ?_), ROs.none_ _⟩
                  · obtain ⟨cs, hb⟩ := (R8.out.nil M9.out).ty a ha; rw [e] at hb; exact blk_two hb BR9.out (by decide)
                  · obtain ⟨cs, hb⟩ := (RK8.out.nil M9.out).ty a ha; rw [e] at hb; exact blk_two hb BR9.out (by decide)
                · rw [HE.out.2.1, HTF.out.2.1]; exact RVs.none_ _
                · show k1 ≤ p.pn + 1; have := HK1.out; omega
                · show m ≤ p.kn + n; have := HKNE.out; omega
                · show 0 ≤ p.on + 4096; omega
                · intro a ha
                  exact .inr (by have := A4N.out a ha; have := M1.out.size; have := M2.out.size; omega)
                · intro a ha
                  exact .inr (by have := HAK.out a ha; have := HW5.out.size; omega)
                · exact fun a ha => (by cases ha)
              · have g7 : ((s : Int) == 18446744073709551615) = false := by rw [beq_eq_false_iff_ne]; omega
                have g7n : (s == 18446744073709551615) = false := by rw [beq_eq_false_iff_ne]; exact hlast
                obtain ⟨d, hd⟩ : ∃ d, s - F' = d := ⟨_, rfl⟩
                have hw : IntKind.u64.wrap ((s : Int) - (F' : Int)) = (d : Int) := by rw [IntKind.wrap_u64]; omega
                by_cases hfar : 4095 < d
                · have g8 : decide ((d : Int) > 4095) = true := by simp; omega
                  have g8n : decide (4095 < d) = true := by simp; omega
                  have HFAR : Hid (farV F' y) := Lib.hid ⟨by rw [HS.out]; omega, .inr (by rw [HS.out, hd]; exact hfar)⟩
                  clear hfar hd hlast
                  have HTF : Hid ((l.note nd low vs).tally = (l.note nd low vs).stop ∧ (l.note nd low vs).tallyV = [] ∧ (l.note nd low vs).tallyB = false) := by
                    have ht : (l.note nd low vs).tooFar := by
                      rw [HNL.out]
                      exact ⟨y, HYM.out, HFAR.out⟩
                    refine Lib.hid ⟨?_, ?_, ?_⟩
                    · unfold PLd.tally; rw [if_neg HFEW.out, if_pos ht]
                    · unfold PLd.tallyV; rw [if_neg HFEW.out, if_pos ht]
                    · unfold PLd.tallyB; rw [if_neg HFEW.out, if_pos ht]
                  go_wp2_with (first
                    | (go_at_call 23; refine (HSTOP.out _).mono ?_; rintro e w9 ⟨rfl, m9⟩; have M9 := Lib.hid m9; have BR9 := Lib.hid (BR8.out.mods m9 (fun h => h)); clear m9)
                    | (refine wpList_store_mk rfl 33 (.tmp 10) (.tmp 146) rfl rfl (w.heap.size + 1) rfl 33 _ #[.int .i64 (l.many : Int), .int .i64 0, .int .u64 (l.bal : Int), .int .u64 (F' : Int), .int .u64 (l.next : Int), .slice A4 k1 c4, .slice (some ⟨bk, okk, none⟩) m ck, .slice none 0 0] rfl BR9.out rfl (by simp [Value.oneCell']) ld_info (by simp [Value.cells]) ?_; intro w10 b10 m10; have B10 := Lib.hid b10; have M10 := Lib.hid m10; clear b10 m10))
                  obtain ⟨r0, r1, r2, r3, r4, r5, r6, r7⟩ := B10.out.eight
                  refine bodyPost_ret (v := .tuple #[.agg #[.int .i64 (l.many : Int), .int .i64 0, .int .u64 (l.bal : Int), .int .u64 (F' : Int), .int .u64 (l.next : Int), .slice A4 k1 c4, .slice (some ⟨bk, okk, none⟩) m ck, .slice none 0 0], .slice none 0 0, .bool false]) (by simp [results, Try.results14, go_sem, r0, r1, r2, r3, r4, r5, r6, r7]) rfl ?_
                  have hw10 : Mods Nil w w10 := (HW8.out.trans M9.out).nil_trans M10.out (fun k e => by omega)
                  refine ⟨{ pA := A4, pn := k1, pc := c4, kA := some ⟨bk, okk, none⟩, kn := m, kc := ck, oA := none, on := 0, oc := 0 }, [], none, 0, 0, ?_, ?_, ?_, ⟨?_, ?_, ?_⟩, ?_, ?_, ?_, fun x hx => (by cases hx), hw10⟩
                  · rw [HE.out.1, HE.out.2.2, HTF.out.1, HTF.out.2.2, HNL.out]
                    rfl
                  · rw [HE.out.1, HTF.out.1, HNL.out]
                    refine ⟨(R8.out.nil M9.out).mods M10.out (fun a ha e => ?_), (RK8.out.nil M9.out).mods M10.out (fun a ha e => ?_), ROs.none_ _⟩
                    · obtain ⟨cs, hb⟩ := (R8.out.nil M9.out).ty a ha; rw [e] at hb; exact blk_two hb BR9.out (by decide)
                    · obtain ⟨cs, hb⟩ := (RK8.out.nil M9.out).ty a ha; rw [e] at hb; exact blk_two hb BR9.out (by decide)
                  · rw [HE.out.2.1, HTF.out.2.1]; exact RVs.none_ _
                  · show k1 ≤ p.pn + 1; have := HK1.out; omega
                  · show m ≤ p.kn + n; have := HKNE.out; omega
                  · show 0 ≤ p.on + 4096; omega
                  · intro a ha
                    exact .inr (by have := A4N.out a ha; have := M1.out.size; have := M2.out.size; omega)
                  · intro a ha
                    exact .inr (by have := HAK.out a ha; have := HW5.out.size; omega)
                  · exact fun a ha => (by cases ha)
                · have g8 : decide ((d : Int) > 4095) = false := by simp; omega
                  have g8n : decide (4095 < d) = false := by simp; omega
                  have HNFY : Hid (¬ farV F' y) := Lib.hid (by
                    rintro ⟨h1, h2 | h2⟩
                    · rw [HS.out] at h2; exact hlast h2
                    · rw [HS.out, hd] at h2; omega)
                  have hs1 : s + 1 < 18446744073709551616 := by omega
                  have HSF : Hid (F' ≤ s) := Lib.hid (by omega)
                  have HNF2 : Hid (∀ v ∈ K.take (i + 1), ¬ farV F' v) := Lib.hid (by
                    intro v hv
                    rw [HTK.out] at hv
                    rcases List.mem_append.1 hv with hv | hv
                    · exact HNF.out v hv
                    · rw [List.mem_singleton.1 hv]; exact HNFY.out)
                  clear hfar hd hlast
                  by_cases hsE : E ≤ s
                  · have g9 : decide ((s : Int) ≥ (E : Int)) = true := by simp; omega
                    have g9n : decide (E ≤ s) = true := by simp; omega
                    obtain ⟨s1, hs1e⟩ : ∃ s1, s + 1 = s1 := ⟨_, rfl⟩
                    have hadd : (s : Int) + 1 = (s1 : Int) := by omega
                    have HS1 := Lib.hid hs1e
                    clear hs1e
                    go_wp2_with fail
                    refine ⟨⟨i + 1, s1, rfl, by go_num, by omega, Lib.hid ?_, HNF2, by first | rfl | trivial⟩, by simp [intOf]; omega⟩
                    rw [HTK.out, endV_snoc, if_pos (by rw [HS.out]; exact HSF.out), HEE.out, HS.out, HS1.out]
                    have := HS1.out
                    omega
                  · have g9 : decide ((s : Int) ≥ (E : Int)) = false := by simp; omega
                    have g9n : decide (E ≤ s) = false := by simp; omega
                    go_wp2_with fail
                    refine ⟨⟨i + 1, E, rfl, by go_num, by omega, Lib.hid ?_, HNF2, by first | rfl | trivial⟩, by simp [intOf]; omega⟩
                    rw [HTK.out, endV_snoc, if_pos (by rw [HS.out]; exact HSF.out), HEE.out, HS.out]
                    omega
          · obtain rfl : m = i := by omega
            have hkt : K.take m = K := List.take_of_length_le (by rw [HKM.out]; exact Nat.le_refl _)
            have hE9 := HEE.out
            rw [hkt] at hE9
            have hNA := HNF.out
            rw [hkt] at hNA
            have hFE : F' ≤ E := by rw [← hE9]; exact endV_ge _ _
            have hE4 : E ≤ F' + 4096 := by rw [← hE9]; exact endV_le hNA
            have hE64 : E < 18446744073709551616 := by rw [← hE9]; exact endV_lt hF64 (fun v hv => ⟨HSLT.out v hv, hNA v hv⟩)
            have HE9 := Lib.hid hE9
            have HTL : Hid ((l.note nd low vs).tally = (l.note nd low vs).lead ∧ (l.note nd low vs).tallyV = (l.note nd low vs).props ∧ (l.note nd low vs).tallyB = true) := by
              have ht : ¬ (l.note nd low vs).tooFar := by
                rw [HNL.out]
                rintro ⟨v, hv, hf⟩
                exact hNA v hv hf
              refine Lib.hid ⟨?_, ?_, ?_⟩
              · unfold PLd.tally; rw [if_neg HFEW.out, if_neg ht]
              · unfold PLd.tallyV; rw [if_neg HFEW.out, if_neg ht]
              · unfold PLd.tallyB; rw [if_neg HFEW.out, if_neg ht]
            have m9 := set_mods15 wr w.heap.size 7 (.slice none 0 0)
            have b9 := B8.out.set_ 7 (.slice none 0 0)
            have f7 := B8.out.frozen 7
            obtain ⟨w9, hw9⟩ : ∃ w9, wr.setCell ⟨w.heap.size, 7, none⟩ (.slice none 0 0) = w9 := ⟨_, rfl⟩
            rw [hw9] at m9 b9
            simp only [List.setIfInBounds_toArray, List.set_cons_zero, List.set_cons_succ] at b9
            have RK9 := Lib.hid (RK8.out.mods m9 (fun a ha e => by obtain ⟨cs, hb⟩ := RK8.out.ty a ha; rw [e] at hb; exact blk_two hb B8.out (by decide)))
            have B9 := Lib.hid b9
            have M9 := Lib.hid m9
            have BR9 := Lib.hid (BR8.out.mods m9 (fun e => by omega))
            have R9 := Lib.hid (R8.out.mods m9 (fun a ha e => by obtain ⟨cs, hb⟩ := R8.out.ty a ha; rw [e] at hb; exact blk_two hb B8.out (by decide)))
            have HW9 : Hid (Mods Nil w w9) := Lib.hid (HW8.out.nil_trans m9 (fun k e => by omega))
            have hq3 := b9.cell 3
            have hgl9 : w.heap.size + 2 ≤ w9.heap.size := by have := HGL.out; have := M58.out.size; have := m9.size; omega
            have HGL9 := Lib.hid hgl9
            simp at hq3
            go_wp2_with fail
            clear hw9 hkt hE9 hNA f7 b9 m9 q0 q1 q2 q3 q4 q5 q6 q7 hgl9 hq3
            obtain ⟨wp, hwp⟩ : ∃ x, x = wr := ⟨_, rfl⟩
            subst hwp
            go_loopw [20, 21] (fun x y wr => ∃ (j so : Nat) (Lo : List ROp) (Ao : Option Addr) (co : Nat), y = .int .u64 (so : Int) ∧ j ≤ E - F' ∧ F' + j = so ∧ Lo.length = j ∧ Hid (Lo.map ROp.o = (propsTo F' l.bal K j).map fun v => ⟨v, []⟩) ∧ Hid (∀ q ∈ Lo, q.A = none ∧ q.c = 0 ∧ q.o.who = []) ∧ Hid (wr.ownsRow w9.heap.size 53 3 x j (vtCs (propsTo F' l.bal K j))) ∧ Hid (wr.ownsRow w9.heap.size 99 4 (.slice Ao j co) j (opCs Lo)) ∧ Hid (Blk wr w.heap.size 33 #[.int .i64 (l.many : Int), .int .i64 (l.stage : Int), .int .u64 (l.bal : Int), .int .u64 (F' : Int), .int .u64 (l.next : Int), .slice A4 k1 c4, .slice Ak m ck, .slice Ao j co]) ∧ Hid (Mods (fun k => k = w.heap.size ∨ w9.heap.size ≤ k) w9 wr)) (fun _ y _ => E - (intOf y).toNat)
            case atStart => exact ⟨0, F', [], none, 0, rfl, Nat.zero_le _, rfl, rfl, Lib.hid rfl, Lib.hid (fun q hq => by cases hq), Lib.hid (by simpa [propsTo, vtCs] using World.ownsRow_nil _ _ _ _), Lib.hid (World.ownsRow_nil _ _ _ _), B9, Lib.hid (Mods.refl _ _)⟩
            case round =>
              obtain ⟨j, so, Lo, Ao, co, rfl, hj, hso, hLo, HLM, HLN, HO, HP9, HB, HM⟩ := hrel
              by_cases hlt3 : so < E
              · have hltI : (so : Int) < (E : Int) := by omega
                have hso64 : so < 18446744073709551616 := by omega
                obtain ⟨x0, x1, x2, x3, x4, x5, x6, x7⟩ := HB.out.eight
                have hrk := RK9.out.mods HM.out (fun a ha e => by
                  obtain ⟨cs, hb⟩ := RK9.out.ty a ha
                  rcases e with e | e
                  · rw [e] at hb; exact blk_two hb B9.out (by decide)
                  · have := hb.lt; omega)
                have m10 : Mods Nil wr (wr.alloc (.cells #[.int .u64 (so : Int), .int .u64 (l.bal : Int), .string ⟨#[]⟩] 53)) := (Mods.refl _ _).alloc _
                have b10 := Blk.new wr 53 #[.int .u64 (so : Int), .int .u64 (l.bal : Int), .string ⟨#[]⟩]
                obtain ⟨gb, hgb⟩ : ∃ gb, wr.heap.size = gb := ⟨_, rfl⟩
                have HGB := Lib.hid hgb
                have RK10 := Lib.hid (hrk.nil m10)
                have M10 := Lib.hid m10
                have B10 := Lib.hid b10
                have HFD := Lib.hid (r15find_any (wr.alloc (.cells #[.int .u64 (so : Int), .int .u64 (l.bal : Int), .string ⟨#[]⟩] 53)) RK10.out (by omega) so)
                have HPT : Hid (propsTo F' l.bal K (j + 1) = propsTo F' l.bal K j ++ [propV l.bal K so]) := Lib.hid (by rw [propsTo_succ, hso])
                have HSO := Lib.hid hso
                have HLO := Lib.hid hLo
                rw [hgb] at B10
                clear hrk m10 b10 hso hLo hgb
                cases hx : idxV K so with
                | none =>
                  have e0 : idxI K so = -1 := by unfold idxI; rw [hx]
                  rw [e0] at HFD
                  have HPV : Hid (propV l.bal K so = ⟨so, l.bal, []⟩) := Lib.hid (by unfold propV; rw [lookV_none.2 (idxV_none.1 hx)])
                  clear hx e0
                  go_wp2_with (first
                    | (go_at_call 44; refine HFD.out.mono ?_; rintro e w11 ⟨rfl, m11⟩; have be := B10.out.mods m11 (fun h => h); have M12 : Hid (Mods (fun k => k = gb) wr w11) := Lib.hid ((M10.out.trans m11).mono (fun _ _ h => h.elim));  have BE := Lib.hid be; rw [← HGB.out] at be; have y0 := be.cell 0; have y1 := be.cell 1; have y2 := be.cell 2; simp at y0 y1 y2; have HOX := Lib.hid (own_mods HO.out M12.out (fun k hk e => by have := (HO.out.lt k hk).2; have := HGB.out; omega)); have HPX := Lib.hid (own_mods HP9.out M12.out (fun k hk e => by have := (HP9.out.lt k hk).2; have := HGB.out; omega)); have HBX := Lib.hid (HB.out.mods M12.out (fun e => by have := HB.out.lt; have := HGB.out; omega)); have x7' := HBX.out.cell 7; simp at x7'; clear m11 be)
                    | (at_builtin; refine push_vt rfl _ _ rfl ⟨so, l.bal, []⟩ rfl HOX.out rfl (by omega) (by have := HM.out.size; have := M12.out.size; omega) ?_; intro v13 w13 o13 m13; have O13 := Lib.hid o13; have M13 := Lib.hid m13; have be13 := BE.out.mods m13 (fun e => by have := (HO.out.lt gb e).2; have := HGB.out; omega); rw [← HGB.out] at be13; have u0 := be13.cell 0; have u1 := be13.cell 1; have u2 := be13.cell 2; simp at u0 u1 u2; have HBY := Lib.hid (HBX.out.mods m13 (fun e => by have := (HO.out.lt _ e).1; have := HGL9.out; omega)); have x7y := HBY.out.cell 7; simp at x7y; have HPY := Lib.hid (own_mods HPX.out m13 (fun k hk e => own_own_ne HOX.out HPX.out (by decide) e hk)); clear o13 m13 be13)
                    | (at_builtin; refine push_op rfl _ _ rfl ⟨⟨⟨so, l.bal, []⟩, []⟩, none, 0⟩ (W := w13) rfl rfl HPY.out rfl (by omega) (by have := HM.out.size; have := M12.out.size; have := M13.out.size; omega) ?_; intro v14 w14 o14 m14; obtain ⟨A14, c14, rfl, -⟩ := own_sls o14; have O14 := Lib.hid o14; have M14 := Lib.hid m14; have hbz := HBY.out.mods m14 (fun e => by have := (HP9.out.lt _ e).1; have := HGL9.out; omega); have x7z := hbz.cell 7; simp at x7z; have f7z := hbz.frozen 7; have HBZ := Lib.hid hbz; have O13Z := Lib.hid (own_mods O13.out m14 (fun k hk e => own_own_ne HPY.out O13.out (by decide) e hk)); clear o14 m14 hbz))
                  obtain ⟨s1, hs1⟩ : ∃ s1, so + 1 = s1 := ⟨_, rfl⟩
                  have m15 := set_mods15 w14 w.heap.size 7 (.slice A14 (j + 1) c14)
                  have b15 := HBZ.out.set_ 7 (.slice A14 (j + 1) c14)
                  simp only [List.setIfInBounds_toArray, List.set_cons_zero, List.set_cons_succ] at b15
                  refine ⟨⟨j + 1, so + 1, Lo ++ [⟨⟨⟨so, l.bal, []⟩, []⟩, none, 0⟩], A14, c14, by go_num, by have := HSO.out; omega, by have := HSO.out; omega, by rw [List.length_append, HLO.out]; rfl, Lib.hid ?_, Lib.hid ?_, Lib.hid ?_, Lib.hid ?_, Lib.hid b15, Lib.hid ?_⟩, by simp [intOf]; omega⟩
                  · rw [List.map_append, HPT.out, List.map_append, HLM.out, HPV.out]
                    rfl
                  · intro q hq
                    rcases List.mem_append.1 hq with hq | hq
                    · exact HLN.out q hq
                    · rw [List.mem_singleton.1 hq]; exact ⟨rfl, rfl, rfl⟩
                  · rw [HPT.out, HPV.out]
                    exact own_mods O13Z.out m15 (fun k hk e => by have := (O13Z.out.lt k hk).1; have := HGL9.out; omega)
                  · exact own_mods O14.out m15 (fun k hk e => by have := (O14.out.lt k hk).1; have := HGL9.out; omega)
                  · refine ((((HM.out.trans (M12.out.mono (fun k _ e => .inr (by have := HM.out.size; have := HGB.out; omega)))).trans2 M13.out (fun k hk e => .inr (HO.out.lt k e).1)).trans2 M14.out (fun k hk e => .inr (HP9.out.lt k e).1)).trans (m15.mono (fun k _ e => .inl e)))
                | some jk =>
                  have e0 : idxI K so = (jk : Int) := by unfold idxI; rw [hx]
                  rw [e0] at HFD
                  obtain ⟨y, hy, hys, hlk, hjK⟩ := idxV_some hx
                  obtain ⟨vv, hvv⟩ : ∃ vv, y.val = vv := ⟨_, rfl⟩
                  have HPV : Hid (propV l.bal K so = ⟨so, l.bal, vv⟩) := Lib.hid (by unfold propV; rw [hlk, ← hvv])
                  have hjm : jk < m := by rw [← HKM.out]; exact hjK
                  have hjmI : (jk : Int) < (m : Int) := by omega
                  have hjn : (jk : Int) ≥ 0 := by omega
                  have hjn2 : ¬ (jk : Int) < 0 := by omega
                  obtain ⟨bk, okk, rfl, hbk, -, -, d2⟩ := RK10.out.at_ hjm
                  have hyj : K[jk] = y := by rw [List.getElem?_eq_getElem hjK] at hy; injection hy
                  rw [hyj, hvv] at d2
                  clear hx e0 hy hys hlk hyj hjK hvv
                  go_wp2_with (first
                    | (go_at_call 44; refine HFD.out.mono ?_; rintro e w11 ⟨rfl, m11⟩; have be11 := B10.out.mods m11 (fun h => h); have fz2 := be11.frozen 2; rw [HGB.out.symm] at fz2; have d2' := (World.cell?_of_block (a := ⟨bk, okk + jk * 3 + 2, none⟩) (m11.block bk hbk (fun h => h))).trans d2; have m12 := set_mods15 w11 gb 2 (.string (strOf vv)); have be := be11.set_ 2 (.string (strOf vv)); have z2 := be11.cell 2; simp at z2; rw [HGB.out.symm] at z2; obtain ⟨w12, hw12⟩ : ∃ w12, w11.setCell ⟨gb, 2, none⟩ (.string (strOf vv)) = w12 := ⟨_, rfl⟩; rw [hw12] at m12 be; rw [HGB.out.symm] at hw12; simp only [List.setIfInBounds_toArray, List.set_cons_zero, List.set_cons_succ] at be; have M12 : Hid (Mods (fun k => k = gb) wr w12) := Lib.hid (((M10.out.trans m11).mono (fun _ _ h => h.elim)).trans m12);  have BE := Lib.hid be; rw [← HGB.out] at be; have y0 := be.cell 0; have y1 := be.cell 1; have y2 := be.cell 2; simp at y0 y1 y2; have HOX := Lib.hid (own_mods HO.out M12.out (fun k hk e => by have := (HO.out.lt k hk).2; have := HGB.out; omega)); have HPX := Lib.hid (own_mods HP9.out M12.out (fun k hk e => by have := (HP9.out.lt k hk).2; have := HGB.out; omega)); have HBX := Lib.hid (HB.out.mods M12.out (fun e => by have := HB.out.lt; have := HGB.out; omega)); have x7' := HBX.out.cell 7; simp at x7'; clear m11 be)
                    | (at_builtin; refine push_vt rfl _ _ rfl ⟨so, l.bal, vv⟩ rfl HOX.out rfl (by omega) (by have := HM.out.size; have := M12.out.size; omega) ?_; intro v13 w13 o13 m13; have O13 := Lib.hid o13; have M13 := Lib.hid m13; have be13 := BE.out.mods m13 (fun e => by have := (HO.out.lt gb e).2; have := HGB.out; omega); rw [← HGB.out] at be13; have u0 := be13.cell 0; have u1 := be13.cell 1; have u2 := be13.cell 2; simp at u0 u1 u2; have HBY := Lib.hid (HBX.out.mods m13 (fun e => by have := (HO.out.lt _ e).1; have := HGL9.out; omega)); have x7y := HBY.out.cell 7; simp at x7y; have HPY := Lib.hid (own_mods HPX.out m13 (fun k hk e => own_own_ne HOX.out HPX.out (by decide) e hk)); clear o13 m13 be13)
                    | (at_builtin; refine push_op rfl _ _ rfl ⟨⟨⟨so, l.bal, vv⟩, []⟩, none, 0⟩ (W := w13) rfl rfl HPY.out rfl (by omega) (by have := HM.out.size; have := M12.out.size; have := M13.out.size; omega) ?_; intro v14 w14 o14 m14; obtain ⟨A14, c14, rfl, -⟩ := own_sls o14; have O14 := Lib.hid o14; have M14 := Lib.hid m14; have hbz := HBY.out.mods m14 (fun e => by have := (HP9.out.lt _ e).1; have := HGL9.out; omega); have x7z := hbz.cell 7; simp at x7z; have f7z := hbz.frozen 7; have HBZ := Lib.hid hbz; have O13Z := Lib.hid (own_mods O13.out m14 (fun k hk e => own_own_ne HPY.out O13.out (by decide) e hk)); clear o14 m14 hbz))
                  obtain ⟨s1, hs1⟩ : ∃ s1, so + 1 = s1 := ⟨_, rfl⟩
                  have m15 := set_mods15 w14 w.heap.size 7 (.slice A14 (j + 1) c14)
                  have b15 := HBZ.out.set_ 7 (.slice A14 (j + 1) c14)
                  simp only [List.setIfInBounds_toArray, List.set_cons_zero, List.set_cons_succ] at b15
                  refine ⟨⟨j + 1, so + 1, Lo ++ [⟨⟨⟨so, l.bal, vv⟩, []⟩, none, 0⟩], A14, c14, by go_num, by have := HSO.out; omega, by have := HSO.out; omega, by rw [List.length_append, HLO.out]; rfl, Lib.hid ?_, Lib.hid ?_, Lib.hid ?_, Lib.hid ?_, Lib.hid b15, Lib.hid ?_⟩, by simp [intOf]; omega⟩
                  · rw [List.map_append, HPT.out, List.map_append, HLM.out, HPV.out]
                    rfl
                  · intro q hq
                    rcases List.mem_append.1 hq with hq | hq
                    · exact HLN.out q hq
                    · rw [List.mem_singleton.1 hq]; exact ⟨rfl, rfl, rfl⟩
                  · rw [HPT.out, HPV.out]
                    exact own_mods O13Z.out m15 (fun k hk e => by have := (O13Z.out.lt k hk).1; have := HGL9.out; omega)
                  · exact own_mods O14.out m15 (fun k hk e => by have := (O14.out.lt k hk).1; have := HGL9.out; omega)
                  · refine ((((HM.out.trans (M12.out.mono (fun k _ e => .inr (by have := HM.out.size; have := HGB.out; omega)))).trans2 M13.out (fun k hk e => .inr (HO.out.lt k e).1)).trans2 M14.out (fun k hk e => .inr (HP9.out.lt k e).1)).trans (m15.mono (fun k _ e => .inl e)))
              · obtain rfl : E = so := by omega
                obtain ⟨D, hD⟩ : ∃ D, E - F' = D := ⟨_, rfl⟩
                obtain rfl : D = j := by omega
                have HD := Lib.hid hD
                have hD4 : D ≤ 4096 := by omega
                obtain ⟨Au, cu, rfl, hru, hau⟩ := rvs_own HO.out (propsTo_len _ _ _ _)
                obtain ⟨Ap, cp, hep, hro, hap⟩ := ros_own HP9.out hLo (fun x hx => by
                  obtain ⟨h1, h2, h3⟩ := HLN.out x hx
                  rw [h1, h2, h3]
                  exact RNs.none_ _)
                injection hep with he1 he2 he3
                subst he1
                subst he3
                have hgl := HGL9.out
                have R20 := R9.out.mods HM.out (fun a ha e => by
                  obtain ⟨cs, hb⟩ := R9.out.ty a ha
                  rcases e with e | e
                  · rw [e] at hb; exact blk_two hb B9.out (by decide)
                  · have := hb.lt; omega)
                have K20 := RK9.out.mods HM.out (fun a ha e => by
                  obtain ⟨cs, hb⟩ := RK9.out.ty a ha
                  rcases e with e | e
                  · rw [e] at hb; exact blk_two hb B9.out (by decide)
                  · have := hb.lt; omega)
                have BR20 := BR9.out.mods HM.out (fun e => by rcases e with e | e <;> omega)
                have b20 := (HB.out.set_ 1 (.int .i64 2)).set_ 4 (.int .u64 (E : Int))
                have m20 := (set_mods15 wr w.heap.size 1 (.int .i64 2)).setCell (p := ⟨w.heap.size, 4, none⟩) (fun _ => rfl) (.int .u64 (E : Int))
                obtain ⟨x0, x1, x2, x3, x4, x5, x6, x7⟩ := HB.out.eight
                have f1 := HB.out.frozen 1
                have f4 := HB.out.frozen 4
                obtain ⟨w20, hw20⟩ : ∃ w20, (wr.setCell ⟨w.heap.size, 1, none⟩ (.int .i64 2)).setCell ⟨w.heap.size, 4, none⟩ (.int .u64 (E : Int)) = w20 := ⟨_, rfl⟩
                rw [hw20] at b20 m20
                simp only [List.setIfInBounds_toArray, List.set_cons_zero, List.set_cons_succ] at b20
                have B20 := Lib.hid b20
                have off : ∀ {A : Option Addr} {t : TypeId}, (∀ a, A = some a → ∃ cs, Blk wr a.block t cs) → t ≠ 33 → ∀ a, A = some a → ¬ a.block = w.heap.size := fun h ht a ha e => by
                  obtain ⟨cs, hb⟩ := h a ha
                  rw [e] at hb; exact blk_two hb HB.out ht
                have RR := Lib.hid (R20.mods m20 (off R20.ty (by decide)))
                have KK := Lib.hid (K20.mods m20 (off K20.ty (by decide)))
                have UU := Lib.hid (hru.mods m20 (off hru.ty (by decide)))
                have OO := Lib.hid (hro.mods m20 (off hro.ty (by decide)) (fun y hy a ha => by rw [(HLN.out y hy).1] at ha; cases ha))
                have BRR := Lib.hid (BR20.mods m20 (fun e => by omega))
                have HAU := Lib.hid hau
                have HAP := Lib.hid hap
                have HWW : Hid (Mods Nil w w20) := Lib.hid ((HW9.out.nil_trans HM.out (fun k hk => by have := HW9.out.size; rcases hk with hk | hk <;> omega)).nil_trans m20 (fun k e => by omega))
                obtain ⟨q0, q1, q2, q3, q4, q5, q6, q7⟩ := b20.eight
                clear hru hau hro hap R20 K20 BR20 b20 m20 off hLo hD hgl
                go_wp2_with (refine wpList_store_mk rfl 33 (.tmp 10) (.tmp 189) rfl rfl (w.heap.size + 1) rfl 33 _ #[.int .i64 (l.many : Int), .int .i64 2, .int .u64 (l.bal : Int), .int .u64 (F' : Int), .int .u64 (E : Int), .slice A4 k1 c4, .slice Ak m ck, .slice Ao D co] rfl BRR.out rfl (by simp [Value.oneCell']) ld_info (by simp [Value.cells]) ?_; intro w21 b21 m21; have B21 := Lib.hid b21; have M21 := Lib.hid m21; clear b21 m21)
                obtain ⟨r0, r1, r2, r3, r4, r5, r6, r7⟩ := B21.out.eight
                refine bodyPost_ret (v := .tuple #[.agg #[.int .i64 (l.many : Int), .int .i64 2, .int .u64 (l.bal : Int), .int .u64 (F' : Int), .int .u64 (E : Int), .slice A4 k1 c4, .slice Ak m ck, .slice Ao D co], .slice Au D cu, .bool true]) (by simp [results, Try.results14, go_sem, r0, r1, r2, r3, r4, r5, r6, r7]) rfl ?_
                have hw21 : Mods Nil w w21 := HWW.out.nil_trans M21.out (fun k e => by omega)
                have hprops : (l.note nd low vs).props = propsTo F' l.bal K D := by
                  rw [HNL.out]
                  unfold PLd.props
                  show propsTo F' l.bal K (endV F' K - F') = _
                  rw [HE9.out, HD.out]
                have hlead : (l.note nd low vs).lead = { l with prom := l.prom ++ [nd], first := F', known := K, stage := 2, next := E, opn := (propsTo F' l.bal K D).map fun v => ⟨v, []⟩ } := by
                  unfold PLd.lead
                  rw [hprops, HNL.out]
                  show ({ l with prom := l.prom ++ [nd], first := F', known := K, stage := 2, next := endV F' K, opn := (propsTo F' l.bal K D).map fun v => ⟨v, []⟩ } : PLd) = _
                  rw [HE9.out]
                have offR : ∀ {A : Option Addr} {t : TypeId}, (∀ a, A = some a → ∃ cs, Blk w20 a.block t cs) → t ≠ 33 → ∀ a, A = some a → ¬ a.block = w.heap.size + 1 := fun h ht a ha e => by
                  obtain ⟨cs, hb⟩ := h a ha
                  rw [e] at hb; exact blk_two hb BRR.out ht
                refine ⟨{ pA := A4, pn := k1, pc := c4, kA := Ak, kn := m, kc := ck, oA := Ao, on := D, oc := co }, Lo, Au, cu, D, ?_, ?_, ?_, ⟨?_, ?_, ?_⟩, ?_, ?_, ?_, fun x hx a ha => ?_, hw21⟩
                · rw [HE.out.1, HE.out.2.2, HTL.out.1, HTL.out.2.2, hlead]
                  rfl
                · rw [HE.out.1, HTL.out.1, hlead]
                  refine ⟨RR.out.mods M21.out (offR RR.out.ty (by decide)), KK.out.mods M21.out (offR KK.out.ty (by decide)), ?_⟩
                  have := OO.out.mods M21.out (offR OO.out.ty (by decide)) (fun y hy a ha => by rw [(HLN.out y hy).1] at ha; cases ha)
                  rw [HLM.out] at this
                  exact this
                · rw [HE.out.2.1, HTL.out.2.1, hprops]
                  exact UU.out.mods M21.out (offR UU.out.ty (by decide))
                · show k1 ≤ p.pn + 1; have := HK1.out; omega
                · show m ≤ p.kn + n; have := HKNE.out; omega
                · show D ≤ p.on + 4096; omega
                · intro a ha
                  exact .inr (by have := A4N.out a ha; have := M1.out.size; have := M2.out.size; omega)
                · intro a ha
                  exact .inr (by have := HAK.out a ha; have := HW5.out.size; omega)
                · intro a ha
                  exact .inr (by have := HAP.out a ha; have := HW9.out.size; omega)
                · rw [(HLN.out x hx).1] at ha; cases ha
end Go.Proofs.Ytpabbhhaagfoeaa
