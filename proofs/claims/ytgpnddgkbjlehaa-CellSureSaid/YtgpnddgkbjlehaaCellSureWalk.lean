/- CellSure's walk. -/
import Derived.Test.YtgpnddgkbjlehaaAwake08
import Derived.Test.YtgpnddgkbjlehaaStr8
import Derived.Test.YtgpnddgkbjlehaaSure8
namespace Go.Proofs.Ytgpnddgkbjlehaa
set_option maxRecDepth 1000000
open Go.RowKit
set_option linter.unusedVariables false

theorem str_empty : strOf [] = (⟨#[]⟩ : ByteArray) := by rfl
set_option maxHeartbeats 12800000 in
theorem cellSure_walk (w : World) {A : Option Addr} {c n : Nat} {l : List Row} (hn : l.length = n) (hs : Sl w A c (l.map Row.val)) (hr : ∀ r ∈ l, r.ok w) {A1 : Option Addr} {c1 m : Nat} {ys : List UInt8} (hm : ys.length = m) (hs1 : Sl w A1 c1 (bts ys)) {A2 : Option Addr} {c2 p : Nat} {l2 : List Row} (hp : l2.length = p) (hs2 : Sl w A2 c2 (l2.map Row.val)) (hr2 : ∀ r ∈ l2, r.ok w) :
    Calls Try.prog 5 #[.slice A n c, .slice A1 m c1, .slice A2 p c2] w fun e w' => e = .returned (.bool true) ∧ Mods Nil w w' := by
  by_cases h20 : 20 < n
  · have hI : decide ((20 : Int) < (n : Int)) = true := by simp; omega
    clear hn hs hr hm hs1 hp hs2 hr2
    go_enter Try.func5, Try.ntmps5
    go_wp2_with (go_at_call 30; refine (awake8_any _).mono ?_; rintro e w1 ⟨rfl, m1⟩; have M1 := Lib.hid m1; clear m1)
    go_ret
    exact ⟨rfl, M1.out⟩
  have hI : decide ((20 : Int) < (n : Int)) = false := by simp; omega
  by_cases hmn : m < n
  · have hJ : decide (m < n) = true := by simp; omega
    clear hn hs hr hm hs1 hp hs2 hr2
    go_enter Try.func5, Try.ntmps5
    go_wp2_with (go_at_call 30; refine (awake8_any _).mono ?_; rintro e w1 ⟨rfl, m1⟩; have M1 := Lib.hid m1; clear m1)
    go_ret
    exact ⟨rfl, M1.out⟩
  have hJ : decide (m < n) = false := by simp; omega
  by_cases hpn : p < n
  · have hK : decide (p < n) = true := by simp; omega
    clear hn hs hr hm hs1 hp hs2 hr2
    go_enter Try.func5, Try.ntmps5
    go_wp2_with (go_at_call 30; refine (awake8_any _).mono ?_; rintro e w1 ⟨rfl, m1⟩; have M1 := Lib.hid m1; clear m1)
    go_ret
    exact ⟨rfl, M1.out⟩
  have hK : decide (p < n) = false := by simp; omega
  obtain ⟨ls, hls⟩ : ∃ ls, l.map (·.xs) = ls := ⟨_, rfl⟩
  obtain ⟨ps, hps⟩ : ∃ ps, l2.map (·.xs) = ps := ⟨_, rfl⟩
  have HN20 := Lib.hid (show n ≤ 20 by omega)
  have HNM := Lib.hid (show n ≤ m by omega)
  have HNP := Lib.hid (show n ≤ p by omega)
  have HROW := Lib.hid (fun j (hj : j < n) => in8_at hn hls hs hr hj)
  have HPIC := Lib.hid (fun j (hj : j < p) => in8_at hp hps hs2 hr2 hj)
  have HM := Lib.hid hm
  have HP := Lib.hid hs1
  clear hn hs hr hm hs1 hp hs2 hr2 hls hps h20 hmn hpn
  go_enter Try.func5, Try.ntmps5
  go_wp2_with (first
    | (go_at_call 30; refine (awake8_any _).mono ?_; rintro e w1 ⟨rfl, m1⟩; have M1 := Lib.hid m1; clear m1)
    | (go_at_call 10; refine (lnew w1 (base := w.heap.size) (n := 2) (k := 2) M1.out.size rfl (by omega) (by omega)).mono ?_; rintro e w2 ⟨db, rfl, d2, m2⟩; have D2 := Lib.hid d2; have M2 := Lib.hid (M1.out.trans m2); clear d2 m2))
  go_loopw [10, 11, 12] (fun s t x wr => ∃ (i : Nat) (L : List (List UInt8)) (k : PCell), i ≤ n ∧ s = .string (strOf k.data) ∧ t = .int .u64 (k.turn : Int) ∧ x = .int .i64 (i : Int) ∧ DiskAt wr w.heap.size db (live L []) ∧ L.length = 2 ∧ op2 0 (L.getD 0 []) (L.getD 1 []) = k ∧ k.great ≤ i ∧ Mods Nil w wr) (fun _ _ x _ => n - (intOf x).toNat)
  case atStart =>
    have e1 : (cellNew 0).data = [] := by rfl
    have e2 : (cellNew 0).turn = 0 := zeros_turn
    exact ⟨0, _, cellNew 0, Nat.zero_le _, by rw [e1, str_empty], by rw [e2]; rfl, rfl, D2.out, by simp, op2_new 0, Nat.le_refl _, M2.out⟩
  case round =>
    clear D2
    obtain ⟨i, L, k, hi, rfl, rfl, rfl, hd, hL2, hop, hg, hmo⟩ := hrel
    have HD := Lib.hid hd
    have HL2 := Lib.hid hL2
    have HOP := Lib.hid hop
    have HG := Lib.hid hg
    have HMO := Lib.hid hmo
    by_cases hlt : i < n
    · have hltI : (i : Int) < (n : Int) := by omega
      have w6 : IntKind.i64.wrap ((i : Int) + 1) = (i : Int) + 1 := by rw [IntKind.wrap_i64]; have := HN20.out; omega
      obtain ⟨b, off, r, rfl, hrow, hrok, hblt, hcell⟩ := HROW.out i hlt
      have hip : i < p := by have := HNP.out; omega
      have hipI : (i : Int) < (p : Int) := by omega
      obtain ⟨b2, off2, r2, rfl, hrow2, hrok2, hblt2, hcell2⟩ := HPIC.out i hip
      obtain ⟨q, hq⟩ : ∃ q, r.xs.length = q := ⟨_, rfl⟩
      obtain ⟨q2, hq2⟩ : ∃ q2, r2.xs.length = q2 := ⟨_, rfl⟩
      rw [hq] at hcell
      rw [hq2] at hcell2
      have c0 := (World.cell?_of_block (hmo.block b hblt (fun h => h))).trans hcell
      have c02 := (World.cell?_of_block (hmo.block b2 hblt2 (fun h => h))).trans hcell2
      by_cases h43 : 43 < q
      · have h43I : decide ((43 : Int) < (q : Int)) = true := by simp; omega
        clear hrok hrow hcell hq h43 hrok2 hrow2 hcell2 hq2 hd hL2 hop hg hmo
        go_wp2_with fail
        go_ret
        exact ⟨rfl, HMO.out⟩
      have h43I : decide ((43 : Int) < (q : Int)) = false := by simp; omega
      by_cases h9 : 9 < q2
      · have h9I : decide ((9 : Int) < (q2 : Int)) = true := by simp; omega
        clear hrok hrow hcell hq h43 hrok2 hrow2 hcell2 hq2 hd hL2 hop hg hmo
        go_wp2_with fail
        go_ret
        exact ⟨rfl, HMO.out⟩
      have h9I : decide ((9 : Int) < (q2 : Int)) = false := by simp; omega
      have HROK := Lib.hid hrok
      have HQ := Lib.hid hq
      have H43 := Lib.hid (show q ≤ 43 by omega)
      have HPOK : Hid (Bs w.heap.size w r2.A r2.c r2.xs) := Lib.hid (Bs.arg hrok2 (Nat.le_refl _))
      have HPL := Lib.hid hq2
      have CROW : ∀ W, Mods Nil w W → W.cell? ⟨b, off + i, none⟩ = some (.slice r.A q r.c) := fun W h => (World.cell?_of_block (h.block b hblt (fun h => h))).trans hcell
      have CPIC : ∀ W, Mods Nil w W → W.cell? ⟨b2, off2 + i, none⟩ = some (.slice r2.A q2 r2.c) := fun W h => (World.cell?_of_block (h.block b2 hblt2 (fun h => h))).trans hcell2
      have hiy : i < ys.length := by rw [HM.out]; have := HNM.out; omega
      obtain ⟨bA, oA, rfl, hbA, hcc⟩ := HP.out.at_ (by rw [bts_length]; omega)
      have hcy := hcc i _ (bts_get ys i hiy)
      have hy256 := (ys[i]'hiy).toNat_lt
      obtain ⟨y, hy⟩ : ∃ y, (ys[i]'hiy).toNat = y := ⟨_, rfl⟩
      rw [hy] at hcy hy256
      have CF : ∀ W, Mods Nil w W → W.cell? ⟨bA, oA + i, none⟩ = some (.int .u8 (y : Int)) := fun W h => (World.cell?_of_block (h.block bA hbA (fun h => h))).trans hcy
      have hyI : (i : Int) < (m : Int) := by have := HNM.out; omega
      obtain ⟨kk, hkk⟩ : ∃ kk, y % 4 = kk := ⟨_, rfl⟩
      have hrem : Int.tmod (y : Int) 4 = (kk : Int) := by rw [Int.tmod_eq_emod_of_nonneg (by omega)]; omega
      have hkw : IntKind.u8.wrap (kk : Int) = (kk : Int) := by rw [IntKind.wrap_u8']; omega
      have hkw2 : IntKind.i64.wrap (kk : Int) = (kk : Int) := by rw [IntKind.wrap_i64]; omega
      have hk4 : (kk : Int) < 4 := by omega
      have STOP : Hid ((live L []).stop (kk : Int) = ⟨L, [], (kk : Int), false⟩) := Lib.hid (by unfold PD.stop live; rw [if_neg (by omega)])
      have h64 : ∀ b ∈ L, b.length = 64 := by obtain ⟨_, _, _, hh⟩ := hd; exact hh.ok.sure
      have hok : k.Ok := by
        have := (cellNew_ok (at_ := 0) (by omega)).take (half := 0) (b := L.getD 0 []) (by rw [List.getD_eq_getElem?_getD, List.getElem?_eq_getElem (by omega)]; exact h64 _ (List.getElem_mem _))
        have := this.take (half := 1) (b := L.getD 1 []) (by rw [List.getD_eq_getElem?_getD, List.getElem?_eq_getElem (by omega)]; exact h64 _ (List.getElem_mem _))
        rw [← hop]
        exact this
      obtain ⟨D7, k7, f, L2, k8, hset, hcr, hW7, hL22, hop2, hg8, ht8, hcase⟩ := sure_step hL2 h64 hop hg (by have := HN20.out; omega) hok.turn (s := r.xs) (by omega) (kk := kk) r2.xs
      have HSET : Hid (∀ V cb, CellAt V w.heap.size cb db ⟨L, [], (kk : Int), false⟩ k → Mods Nil w V → Calls Try.prog 33 #[.pointer (some ⟨cb, 0, none⟩), .slice r.A q r.c] V fun e w' => e = .returned (.int .i64 f) ∧ CellAt w' w.heap.size cb db D7 k7 ∧ CM w.heap.size V w') := Lib.hid (fun V cb hV hm => by
        have := cset_any hV (by simp) (HROK.out.mods hm) hq
        rw [hset] at this
        exact this)
      have HCR := Lib.hid hcr
      have HL22 := Lib.hid hL22
      have HOP2 := Lib.hid hop2
      have HG8 := Lib.hid hg8
      have ht8I : decide (k8.turn < k.turn) = false := by simpa using ht8
      have ht8J : decide ((k8.turn : Int) < (k.turn : Int)) = false := by simpa using ht8
      clear hrok hrow hcell hq h43 hrok2 hrow2 hcell2 hq2 hd hL2 hop hg hmo hcc hcy hy hiy hbA h64 hok hset hcr hW7 hL22 hop2 hg8 ht8 h9 hblt hblt2 hkk hip
      rcases hcase with ⟨rfl, h7d, h7t, h8d⟩ | ⟨rfl, h7d, h8d⟩
      · have H7D := Lib.hid h7d
        have h7tI : decide (k7.turn ≤ k.turn) = false := by simpa using h7t
        have h7tJ : decide ((k7.turn : Int) ≤ (k.turn : Int)) = false := by simpa using h7t
        have H8D := Lib.hid h8d
        clear h7d h7t h8d
        go_wp2_with (first
          | (go_at_call 31; refine (a8open HD.out HMO.out.size (at_ := 0) (i := 0) (by rw [HL2.out]; omega) (by rw [HL2.out]; omega) rfl).mono ?_; rintro e w5 ⟨cb, rfl, a5, m5⟩; rw [HOP.out] at a5; have A5 := Lib.hid a5; have M5 := Lib.hid (HMO.out.trans m5); have r5a := CROW _ M5.out; have r5b := CPIC _ M5.out; have y5 := CF _ M5.out; clear a5 m5)
          | (go_at_call 37; refine (a8get A5.out rfl rfl).mono ?_; rintro e w6 ⟨A6, c6, rfl, s6, m6⟩; have A6 := Lib.hid (A5.out.nil m6); have v6 := conv8 rfl s6; have M6 := Lib.hid (M5.out.trans m6); clear s6 m6)
          | (go_at_call 38; refine (a8turn A6.out rfl rfl).mono ?_; rintro e w7 ⟨rfl, m7⟩; have A7 := Lib.hid (A6.out.nil m7); have M7 := Lib.hid (M6.out.trans m7); have r7a := CROW _ M7.out; have r7b := CPIC _ M7.out; have y7 := CF _ M7.out; clear m7)
          | (go_at_call 21; refine (dstop_any A7.out.disk (k := (kk : Int)) (by omega)).mono ?_; rintro e w8 ⟨rfl, d8, m8⟩; rw [STOP.out] at d8; have C8 := Lib.hid (A7.out.all.dm m8 d8); have M8 := Lib.hid (DM.nilTrans M7.out (Nat.le_refl _) m8); have r8a := CROW _ M8.out; have r8b := CPIC _ M8.out; clear d8 m8)
          | (go_at_call 33; refine (HSET.out _ _ C8.out M8.out).mono ?_; rintro e w9 ⟨rfl, a9, m9⟩; have C9 := Lib.hid a9; have M9 := Lib.hid (CM.nilTrans M8.out (Nat.le_refl _) m9); clear a9 m9))
        have v1 := fun W (h : Mods Nil w W) => conv8 HQ.out (HROK.out.mods h)
        refine wp_region_held_drew (S := (fun W => Mods Nil w W)) (by kernel_rfl) M9.out.drew (fun hS => ?_)
        refine takeL (i := 0) (v := ?_) rfl (by kernel_rfl) (by kernel_rfl) (by kernel_rfl) (fun _ _ _ h => h) (Or.inl ⟨by rfl, ?_⟩) hS ?_
        rotate_left
        · intro V hV
          go_simp
          try with_reducible rfl
        simp only [Act.put, List.setIfInBounds_toArray, List.set_cons_zero, List.set_cons_succ]
        refine takeL (i := 1) (v := ?_) rfl (by kernel_rfl) (by kernel_rfl) (by kernel_rfl) (fun _ _ _ h => h) (Or.inl ⟨by rfl, ?_⟩) hS ?_
        rotate_left
        · intro V hV
          go_simp
          try with_reducible rfl
        simp only [Act.put, List.setIfInBounds_toArray, List.set_cons_zero, List.set_cons_succ]
        refine takeL (i := 2) (v := ?_) rfl (by kernel_rfl) (by kernel_rfl) (by kernel_rfl) (fun _ _ _ h => h) (Or.inl ⟨by rfl, ?_⟩) hS ?_
        rotate_left
        · intro V hV
          go_simp
          try with_reducible rfl
        simp only [Act.put, List.setIfInBounds_toArray, List.set_cons_zero, List.set_cons_succ]
        refine takeL (i := 3) (v := ?_) rfl (by kernel_rfl) (by kernel_rfl) (by kernel_rfl) (fun _ _ _ h => h) (Or.inl ⟨by rfl, ?_⟩) hS ?_
        rotate_left
        · intro V hV
          go_simp
          try with_reducible rfl
        simp only [Act.put, List.setIfInBounds_toArray, List.set_cons_zero, List.set_cons_succ]
        refine takeL (i := 6) (v := ?_) rfl (by kernel_rfl) (by kernel_rfl) (by kernel_rfl) (fun _ _ _ h => h) (Or.inl ⟨by rfl, ?_⟩) hS ?_
        rotate_left
        · intro V hV
          go_simp
          try with_reducible rfl
        simp only [Act.put, List.setIfInBounds_toArray, List.set_cons_zero, List.set_cons_succ]
        refine takeL (i := 7) (v := ?_) rfl (by kernel_rfl) (by kernel_rfl) (by kernel_rfl) (fun _ _ _ h => h) (Or.inl ⟨by rfl, ?_⟩) hS ?_
        rotate_left
        · intro V hV
          go_simp
          try with_reducible rfl
        simp only [Act.put, List.setIfInBounds_toArray, List.set_cons_zero, List.set_cons_succ]
        refine takeL (i := 8) (v := ?_) rfl (by kernel_rfl) (by kernel_rfl) (by kernel_rfl) (fun _ _ _ h => h) (Or.inl ⟨by rfl, ?_⟩) hS ?_
        rotate_left
        · intro V hV
          go_simp
          try with_reducible rfl
        simp only [Act.put, List.setIfInBounds_toArray, List.set_cons_zero, List.set_cons_succ]
        refine takeL (i := 9) (v := ?_) rfl (by kernel_rfl) (by kernel_rfl) (by kernel_rfl) (fun _ _ _ h => h) (Or.inl ⟨by rfl, ?_⟩) hS ?_
        rotate_left
        · intro V hV
          go_simp
          try with_reducible rfl
        simp only [Act.put, List.setIfInBounds_toArray, List.set_cons_zero, List.set_cons_succ]
        refine takeL (i := 10) (v := ?_) rfl (by kernel_rfl) (by kernel_rfl) (by kernel_rfl) (fun _ _ _ h => h) (Or.inl ⟨by rfl, ?_⟩) hS ?_
        rotate_left
        · intro V hV
          go_simp
          try with_reducible rfl
        simp only [Act.put, List.setIfInBounds_toArray, List.set_cons_zero, List.set_cons_succ]
        refine wpAnyH_ready (rs := [4]) (by kernel_rfl) (by simp) (readyL rfl ?_ AllReadyH.nil)
        intro K' hK
        rw [if_pos (by rfl)]
        refine wpH_call _ _ ?_ ((cget_any (C9.out.nil (Mods.refl Nil w9).drew).2 (n := q) (by rw [H7D.out]; exact HQ.out)).mono ?_)
        · go_simp
        rintro e w10 ⟨A10, c10, rfl, s10, m10⟩
        have C10 := Lib.hid ((C9.out.nil (Mods.refl Nil w9).drew).nil m10)
        rw [H7D.out] at s10
        have v10 := conv8 HQ.out s10
        have M10 := Lib.hid (M9.out.drew.trans m10)
        clear s10 m10
        refine ⟨_, rfl, ?_⟩
        refine hK.out _ _ M10.out (fun hS => ?_)
        clear hK K'
        simp only [Act.put, List.setIfInBounds_toArray, List.set_cons_zero, List.set_cons_succ]
        refine wpAnyH_ready (rs := [5]) (by kernel_rfl) (by simp) (readyL rfl ?_ AllReadyH.nil)
        intro K' hK
        rw [if_pos (by rfl)]
        refine wpH_value (v := ?_) ?_ ?_
        rotate_left
        · go_simp
          try with_reducible rfl
        refine hK.out _ _ M10.out (fun hS => ?_)
        clear hK K'
        simp only [Act.put, List.setIfInBounds_toArray, List.set_cons_zero, List.set_cons_succ]
        refine takeL (i := 11) (v := ?_) rfl (by kernel_rfl) (by kernel_rfl) (by kernel_rfl) (fun _ _ _ h => h) (Or.inl ⟨by rfl, ?_⟩) hS ?_
        rotate_left
        · intro V hV
          go_simp
          try with_reducible rfl
        simp only [Act.put, List.setIfInBounds_toArray, List.set_cons_zero, List.set_cons_succ]
        refine takeL (i := 12) (v := ?_) rfl (by kernel_rfl) (by kernel_rfl) (by kernel_rfl) (fun _ _ _ h => h) (Or.inl ⟨by rfl, ?_⟩) hS ?_
        rotate_left
        · intro V hV
          go_simp
          try with_reducible rfl
        simp only [Act.put, List.setIfInBounds_toArray, List.set_cons_zero, List.set_cons_succ]
        refine takeL (i := 13) (v := ?_) rfl (by kernel_rfl) (by kernel_rfl) (by kernel_rfl) (fun _ _ _ h => h) (Or.inl ⟨by rfl, ?_⟩) hS ?_
        rotate_left
        · intro V hV
          go_simp
          try with_reducible rfl
        simp only [Act.put, List.setIfInBounds_toArray, List.set_cons_zero, List.set_cons_succ]
        refine takeL (i := 15) (v := ?_) rfl (by kernel_rfl) (by kernel_rfl) (by kernel_rfl) (fun _ _ _ h => h) (Or.inl ⟨by rfl, ?_⟩) hS ?_
        rotate_left
        · intro V hV
          go_simp
          try with_reducible rfl
        simp only [Act.put, List.setIfInBounds_toArray, List.set_cons_zero, List.set_cons_succ]
        refine wpAnyH_ready (rs := [14]) (by kernel_rfl) (by simp) (readyL rfl ?_ AllReadyH.nil)
        intro K' hK
        rw [if_pos (by rfl)]
        refine wpH_call _ _ ?_ ((cturnof_any C10.out.2 rfl).mono ?_)
        · go_simp
        rintro e w11 ⟨rfl, m11⟩
        have C11 := Lib.hid (C10.out.nil m11)
        have M11 := Lib.hid (M10.out.trans m11)
        clear m11 v10
        refine ⟨_, rfl, ?_⟩
        refine hK.out _ _ M11.out (fun hS => ?_)
        clear hK K'
        simp only [Act.put, List.setIfInBounds_toArray, List.set_cons_zero, List.set_cons_succ]
        refine takeL (i := 16) (v := ?_) rfl (by kernel_rfl) (by kernel_rfl) (by kernel_rfl) (fun _ _ _ h => h) (Or.inl ⟨by rfl, ?_⟩) hS ?_
        rotate_left
        · intro V hV
          go_simp
          try with_reducible rfl
        simp only [Act.put, List.setIfInBounds_toArray, List.set_cons_zero, List.set_cons_succ]
        refine takeL (i := 17) (v := ?_) rfl (by kernel_rfl) (by kernel_rfl) (by kernel_rfl) (fun _ _ _ h => h) (Or.inl ⟨by rfl, ?_⟩) hS ?_
        rotate_left
        · intro V hV
          go_simp
          try with_reducible rfl
        simp only [Act.put, List.setIfInBounds_toArray, List.set_cons_zero, List.set_cons_succ]
        refine takeL (i := 18) (v := ?_) rfl (by kernel_rfl) (by kernel_rfl) (by kernel_rfl) (fun _ _ _ h => h) (Or.inl ⟨by rfl, ?_⟩) hS ?_
        rotate_left
        · intro V hV
          go_simp
          try with_reducible rfl
        simp only [Act.put, List.setIfInBounds_toArray, List.set_cons_zero, List.set_cons_succ]
        refine takeL (i := 19) (v := ?_) rfl (by kernel_rfl) (by kernel_rfl) (by kernel_rfl) (fun _ _ _ h => h) (Or.inl ⟨by rfl, ?_⟩) hS ?_
        rotate_left
        · intro V hV
          go_simp
          try with_reducible rfl
        simp only [Act.put, List.setIfInBounds_toArray, List.set_cons_zero, List.set_cons_succ]
        refine takeL (i := 20) (v := ?_) rfl (by kernel_rfl) (by kernel_rfl) (by kernel_rfl) (fun _ _ _ h => h) (Or.inl ⟨by rfl, ?_⟩) hS ?_
        rotate_left
        · intro V hV
          go_simp
          try with_reducible rfl
        simp only [Act.put, List.setIfInBounds_toArray, List.set_cons_zero, List.set_cons_succ]
        refine takeL (i := 21) (v := ?_) rfl (by kernel_rfl) (by kernel_rfl) (by kernel_rfl) (fun _ _ _ h => h) (Or.inl ⟨by rfl, ?_⟩) hS ?_
        rotate_left
        · intro V hV
          go_simp
          try with_reducible rfl
        simp only [Act.put, List.setIfInBounds_toArray, List.set_cons_zero, List.set_cons_succ]
        refine takeL (i := 22) (v := ?_) rfl (by kernel_rfl) (by kernel_rfl) (by kernel_rfl) (fun _ _ _ h => h) (Or.inl ⟨by rfl, ?_⟩) hS ?_
        rotate_left
        · intro V hV
          go_simp
          try with_reducible rfl
        simp only [Act.put, List.setIfInBounds_toArray, List.set_cons_zero, List.set_cons_succ]
        refine takeL (i := 23) rfl (by kernel_rfl) (by kernel_rfl) (by kernel_rfl) (fun _ _ _ h => h) (Or.inr ⟨by rfl, rfl⟩) hS ?_
        simp only [Act.put, List.setIfInBounds_toArray, List.set_cons_zero, List.set_cons_succ]
        refine takeL (i := 24) rfl (by kernel_rfl) (by kernel_rfl) (by kernel_rfl) (fun _ _ _ h => h) (Or.inr ⟨by rfl, rfl⟩) hS ?_
        simp only [Act.put, List.setIfInBounds_toArray, List.set_cons_zero, List.set_cons_succ]
        refine takeL (i := 25) rfl (by kernel_rfl) (by kernel_rfl) (by kernel_rfl) (fun _ _ _ h => h) (Or.inr ⟨by rfl, rfl⟩) hS ?_
        simp only [Act.put, List.setIfInBounds_toArray, List.set_cons_zero, List.set_cons_succ]
        refine takeL (i := 26) rfl (by kernel_rfl) (by kernel_rfl) (by kernel_rfl) (fun _ _ _ h => h) (Or.inr ⟨by rfl, rfl⟩) hS ?_
        simp only [Act.put, List.setIfInBounds_toArray, List.set_cons_zero, List.set_cons_succ]
        refine takeL (i := 27) rfl (by kernel_rfl) (by kernel_rfl) (by kernel_rfl) (fun _ _ _ h => h) (Or.inr ⟨by rfl, rfl⟩) hS ?_
        simp only [Act.put, List.setIfInBounds_toArray, List.set_cons_zero, List.set_cons_succ]
        refine takeL (i := 28) (v := ?_) rfl (by kernel_rfl) (by kernel_rfl) (by kernel_rfl) (fun _ _ _ h => h) (Or.inl ⟨by rfl, ?_⟩) hS ?_
        rotate_left
        · intro V hV
          go_simp
          try with_reducible rfl
        simp only [Act.put, List.setIfInBounds_toArray, List.set_cons_zero, List.set_cons_succ]
        refine takeL (i := 29) (v := ?_) rfl (by kernel_rfl) (by kernel_rfl) (by kernel_rfl) (fun _ _ _ h => h) (Or.inl ⟨by rfl, ?_⟩) hS ?_
        rotate_left
        · intro V hV
          go_simp
          try with_reducible rfl
        simp only [Act.put, List.setIfInBounds_toArray, List.set_cons_zero, List.set_cons_succ]
        refine wpAnyH_done (by kernel_rfl) ?_ _
        have r11 := CPIC w11 M11.out
        have r11a := CROW w11 M11.out
        go_wp2_with (first
          | (go_at_call 26; refine (dcrash_any C11.out.1 (HPOK.out.nil M11.out) HPL.out).mono ?_; rintro e w12 ⟨rfl, d12, m12⟩; rw [HCR.out] at d12; have D12 : Hid (DiskAt w12 w.heap.size db (live L2 [])) := Lib.hid d12; have M12 := Lib.hid (DM.nilTrans M11.out (Nat.le_refl _) m12); clear d12 m12)
          | (go_at_call 31; refine (a8open D12.out M12.out.size (at_ := 0) (i := 0) (by rw [HL22.out]; omega) (by rw [HL22.out]; omega) rfl).mono ?_; rintro e w13 ⟨cb2, rfl, a13, m13⟩; rw [HOP2.out] at a13; have A13 := Lib.hid a13; have M13 := Lib.hid (M12.out.trans m13); clear a13 m13)
          | (go_at_call 38; refine (a8turn A15.out rfl rfl).mono ?_; rintro e w16 ⟨rfl, m16⟩; have A16 := Lib.hid (A15.out.nil m16); have M16 := Lib.hid (M15.out.trans m16); clear m16)
          | (go_at_call 38; refine (a8turn A14.out rfl rfl).mono ?_; rintro e w15 ⟨rfl, m15⟩; have A15 := Lib.hid (A14.out.nil m15); have M15 := Lib.hid (M14.out.trans m15); clear m15)
          | (go_at_call 37; refine (a8get A13.out H8D.out HQ.out).mono ?_; rintro e w14 ⟨A14, c14, rfl, s14, m14⟩; have A14 := Lib.hid (A13.out.nil m14); have v14 := conv8 HQ.out s14; have M14 := Lib.hid (M13.out.trans m14); have M14' := M14.out; have r14 := CROW _ M14.out; clear s14 m14))
        exact ⟨⟨i + 1, L2, k8, hlt, by rw [H8D.out], rfl, by go_num, A16.out.disk, HL22.out, HOP2.out, HG8.out, M16.out⟩, by simp [intOf]; omega⟩
      · have H7D := Lib.hid h7d
        by_cases hA : k8.data = r.xs
        · have H8D := Lib.hid hA
          clear h7d h8d hA
          go_wp2_with (first
            | (go_at_call 31; refine (a8open HD.out HMO.out.size (at_ := 0) (i := 0) (by rw [HL2.out]; omega) (by rw [HL2.out]; omega) rfl).mono ?_; rintro e w5 ⟨cb, rfl, a5, m5⟩; rw [HOP.out] at a5; have A5 := Lib.hid a5; have M5 := Lib.hid (HMO.out.trans m5); have r5a := CROW _ M5.out; have r5b := CPIC _ M5.out; have y5 := CF _ M5.out; clear a5 m5)
            | (go_at_call 37; refine (a8get A5.out rfl rfl).mono ?_; rintro e w6 ⟨A6, c6, rfl, s6, m6⟩; have A6 := Lib.hid (A5.out.nil m6); have v6 := conv8 rfl s6; have M6 := Lib.hid (M5.out.trans m6); clear s6 m6)
            | (go_at_call 38; refine (a8turn A6.out rfl rfl).mono ?_; rintro e w7 ⟨rfl, m7⟩; have A7 := Lib.hid (A6.out.nil m7); have M7 := Lib.hid (M6.out.trans m7); have r7a := CROW _ M7.out; have r7b := CPIC _ M7.out; have y7 := CF _ M7.out; clear m7)
            | (go_at_call 21; refine (dstop_any A7.out.disk (k := (kk : Int)) (by omega)).mono ?_; rintro e w8 ⟨rfl, d8, m8⟩; rw [STOP.out] at d8; have C8 := Lib.hid (A7.out.all.dm m8 d8); have M8 := Lib.hid (DM.nilTrans M7.out (Nat.le_refl _) m8); have r8a := CROW _ M8.out; have r8b := CPIC _ M8.out; clear d8 m8)
            | (go_at_call 33; refine (HSET.out _ _ C8.out M8.out).mono ?_; rintro e w9 ⟨rfl, a9, m9⟩; have C9 := Lib.hid a9; have M9 := Lib.hid (CM.nilTrans M8.out (Nat.le_refl _) m9); clear a9 m9))
          have v1 := fun W (h : Mods Nil w W) => conv8 HQ.out (HROK.out.mods h)
          refine wp_region_held_drew (S := (fun W => Mods Nil w W)) (by kernel_rfl) M9.out.drew (fun hS => ?_)
          refine takeL (i := 0) (v := ?_) rfl (by kernel_rfl) (by kernel_rfl) (by kernel_rfl) (fun _ _ _ h => h) (Or.inl ⟨by rfl, ?_⟩) hS ?_
          rotate_left
          · intro V hV
            go_simp
            try with_reducible rfl
          simp only [Act.put, List.setIfInBounds_toArray, List.set_cons_zero, List.set_cons_succ]
          refine takeL (i := 1) (v := ?_) rfl (by kernel_rfl) (by kernel_rfl) (by kernel_rfl) (fun _ _ _ h => h) (Or.inl ⟨by rfl, ?_⟩) hS ?_
          rotate_left
          · intro V hV
            go_simp
            try with_reducible rfl
          simp only [Act.put, List.setIfInBounds_toArray, List.set_cons_zero, List.set_cons_succ]
          refine takeL (i := 2) (v := ?_) rfl (by kernel_rfl) (by kernel_rfl) (by kernel_rfl) (fun _ _ _ h => h) (Or.inl ⟨by rfl, ?_⟩) hS ?_
          rotate_left
          · intro V hV
            go_simp
            try with_reducible rfl
          simp only [Act.put, List.setIfInBounds_toArray, List.set_cons_zero, List.set_cons_succ]
          refine takeL (i := 3) rfl (by kernel_rfl) (by kernel_rfl) (by kernel_rfl) (fun _ _ _ h => h) (Or.inr ⟨by rfl, rfl⟩) hS ?_
          simp only [Act.put, List.setIfInBounds_toArray, List.set_cons_zero, List.set_cons_succ]
          refine takeL (i := 4) rfl (by kernel_rfl) (by kernel_rfl) (by kernel_rfl) (fun _ _ _ h => h) (Or.inr ⟨by rfl, rfl⟩) hS ?_
          simp only [Act.put, List.setIfInBounds_toArray, List.set_cons_zero, List.set_cons_succ]
          refine takeL (i := 5) rfl (by kernel_rfl) (by kernel_rfl) (by kernel_rfl) (fun _ _ _ h => h) (Or.inr ⟨by rfl, rfl⟩) hS ?_
          simp only [Act.put, List.setIfInBounds_toArray, List.set_cons_zero, List.set_cons_succ]
          refine takeL (i := 6) rfl (by kernel_rfl) (by kernel_rfl) (by kernel_rfl) (fun _ _ _ h => h) (Or.inr ⟨by rfl, rfl⟩) hS ?_
          simp only [Act.put, List.setIfInBounds_toArray, List.set_cons_zero, List.set_cons_succ]
          refine takeL (i := 7) rfl (by kernel_rfl) (by kernel_rfl) (by kernel_rfl) (fun _ _ _ h => h) (Or.inr ⟨by rfl, rfl⟩) hS ?_
          simp only [Act.put, List.setIfInBounds_toArray, List.set_cons_zero, List.set_cons_succ]
          refine takeL (i := 8) rfl (by kernel_rfl) (by kernel_rfl) (by kernel_rfl) (fun _ _ _ h => h) (Or.inr ⟨by rfl, rfl⟩) hS ?_
          simp only [Act.put, List.setIfInBounds_toArray, List.set_cons_zero, List.set_cons_succ]
          refine takeL (i := 9) rfl (by kernel_rfl) (by kernel_rfl) (by kernel_rfl) (fun _ _ _ h => h) (Or.inr ⟨by rfl, rfl⟩) hS ?_
          simp only [Act.put, List.setIfInBounds_toArray, List.set_cons_zero, List.set_cons_succ]
          refine takeL (i := 10) rfl (by kernel_rfl) (by kernel_rfl) (by kernel_rfl) (fun _ _ _ h => h) (Or.inr ⟨by rfl, rfl⟩) hS ?_
          simp only [Act.put, List.setIfInBounds_toArray, List.set_cons_zero, List.set_cons_succ]
          refine takeL (i := 11) rfl (by kernel_rfl) (by kernel_rfl) (by kernel_rfl) (fun _ _ _ h => h) (Or.inr ⟨by rfl, rfl⟩) hS ?_
          simp only [Act.put, List.setIfInBounds_toArray, List.set_cons_zero, List.set_cons_succ]
          refine takeL (i := 12) rfl (by kernel_rfl) (by kernel_rfl) (by kernel_rfl) (fun _ _ _ h => h) (Or.inr ⟨by rfl, rfl⟩) hS ?_
          simp only [Act.put, List.setIfInBounds_toArray, List.set_cons_zero, List.set_cons_succ]
          refine takeL (i := 13) rfl (by kernel_rfl) (by kernel_rfl) (by kernel_rfl) (fun _ _ _ h => h) (Or.inr ⟨by rfl, rfl⟩) hS ?_
          simp only [Act.put, List.setIfInBounds_toArray, List.set_cons_zero, List.set_cons_succ]
          refine takeL (i := 14) rfl (by kernel_rfl) (by kernel_rfl) (by kernel_rfl) (fun _ _ _ h => h) (Or.inr ⟨by rfl, rfl⟩) hS ?_
          simp only [Act.put, List.setIfInBounds_toArray, List.set_cons_zero, List.set_cons_succ]
          refine takeL (i := 15) rfl (by kernel_rfl) (by kernel_rfl) (by kernel_rfl) (fun _ _ _ h => h) (Or.inr ⟨by rfl, rfl⟩) hS ?_
          simp only [Act.put, List.setIfInBounds_toArray, List.set_cons_zero, List.set_cons_succ]
          refine takeL (i := 16) rfl (by kernel_rfl) (by kernel_rfl) (by kernel_rfl) (fun _ _ _ h => h) (Or.inr ⟨by rfl, rfl⟩) hS ?_
          simp only [Act.put, List.setIfInBounds_toArray, List.set_cons_zero, List.set_cons_succ]
          refine takeL (i := 17) rfl (by kernel_rfl) (by kernel_rfl) (by kernel_rfl) (fun _ _ _ h => h) (Or.inr ⟨by rfl, rfl⟩) hS ?_
          simp only [Act.put, List.setIfInBounds_toArray, List.set_cons_zero, List.set_cons_succ]
          refine takeL (i := 18) (v := ?_) rfl (by kernel_rfl) (by kernel_rfl) (by kernel_rfl) (fun _ _ _ h => h) (Or.inl ⟨by rfl, ?_⟩) hS ?_
          rotate_left
          · intro V hV
            go_simp
            try with_reducible rfl
          simp only [Act.put, List.setIfInBounds_toArray, List.set_cons_zero, List.set_cons_succ]
          refine takeL (i := 19) (v := ?_) rfl (by kernel_rfl) (by kernel_rfl) (by kernel_rfl) (fun _ _ _ h => h) (Or.inl ⟨by rfl, ?_⟩) hS ?_
          rotate_left
          · intro V hV
            go_simp
            try with_reducible rfl
          simp only [Act.put, List.setIfInBounds_toArray, List.set_cons_zero, List.set_cons_succ]
          refine takeL (i := 20) (v := ?_) rfl (by kernel_rfl) (by kernel_rfl) (by kernel_rfl) (fun _ _ _ h => h) (Or.inl ⟨by rfl, ?_⟩) hS ?_
          rotate_left
          · intro V hV
            go_simp
            try with_reducible rfl
          simp only [Act.put, List.setIfInBounds_toArray, List.set_cons_zero, List.set_cons_succ]
          refine takeL (i := 21) (v := ?_) rfl (by kernel_rfl) (by kernel_rfl) (by kernel_rfl) (fun _ _ _ h => h) (Or.inl ⟨by rfl, ?_⟩) hS ?_
          rotate_left
          · intro V hV
            go_simp
            try with_reducible rfl
          simp only [Act.put, List.setIfInBounds_toArray, List.set_cons_zero, List.set_cons_succ]
          refine takeL (i := 22) (v := ?_) rfl (by kernel_rfl) (by kernel_rfl) (by kernel_rfl) (fun _ _ _ h => h) (Or.inl ⟨by rfl, ?_⟩) hS ?_
          rotate_left
          · intro V hV
            go_simp
            try with_reducible rfl
          simp only [Act.put, List.setIfInBounds_toArray, List.set_cons_zero, List.set_cons_succ]
          refine takeL (i := 23) (v := ?_) rfl (by kernel_rfl) (by kernel_rfl) (by kernel_rfl) (fun _ _ _ h => h) (Or.inl ⟨by rfl, ?_⟩) hS ?_
          rotate_left
          · intro V hV
            go_simp
            try with_reducible rfl
          simp only [Act.put, List.setIfInBounds_toArray, List.set_cons_zero, List.set_cons_succ]
          refine takeL (i := 26) (v := ?_) rfl (by kernel_rfl) (by kernel_rfl) (by kernel_rfl) (fun _ _ _ h => h) (Or.inl ⟨by rfl, ?_⟩) hS ?_
          rotate_left
          · intro V hV
            go_simp
            try with_reducible rfl
          simp only [Act.put, List.setIfInBounds_toArray, List.set_cons_zero, List.set_cons_succ]
          refine wpAnyH_ready (rs := [24]) (by kernel_rfl) (by simp) (readyL rfl ?_ AllReadyH.nil)
          intro K' hK
          rw [if_pos (by rfl)]
          refine wpH_call _ _ ?_ ((cget_any (C9.out.nil (Mods.refl Nil w9).drew).2 (n := k.data.length) (by rw [H7D.out])).mono ?_)
          · go_simp
          rintro e w11 ⟨A11, c11, rfl, s11, m11⟩
          have C11 := Lib.hid ((C9.out.nil (Mods.refl Nil w9).drew).nil m11)
          rw [H7D.out] at s11
          have v11 := conv8 rfl s11
          have M11 := Lib.hid (M9.out.drew.trans m11)
          clear s11 m11
          refine ⟨_, rfl, ?_⟩
          refine hK.out _ _ M11.out (fun hS => ?_)
          clear hK K'
          simp only [Act.put, List.setIfInBounds_toArray, List.set_cons_zero, List.set_cons_succ]
          refine wpAnyH_ready (rs := [25]) (by kernel_rfl) (by simp) (readyL rfl ?_ AllReadyH.nil)
          intro K' hK
          rw [if_pos (by rfl)]
          refine wpH_value (v := ?_) ?_ ?_
          rotate_left
          · go_simp
            try with_reducible rfl
          refine hK.out _ _ M11.out (fun hS => ?_)
          clear hK K'
          simp only [Act.put, List.setIfInBounds_toArray, List.set_cons_zero, List.set_cons_succ]
          refine takeL (i := 27) (v := ?_) rfl (by kernel_rfl) (by kernel_rfl) (by kernel_rfl) (fun _ _ _ h => h) (Or.inl ⟨by rfl, ?_⟩) hS ?_
          rotate_left
          · intro V hV
            go_simp
            try with_reducible rfl
          simp only [Act.put, List.setIfInBounds_toArray, List.set_cons_zero, List.set_cons_succ]
          refine takeL (i := 28) (v := ?_) rfl (by kernel_rfl) (by kernel_rfl) (by kernel_rfl) (fun _ _ _ h => h) (Or.inl ⟨by rfl, ?_⟩) hS ?_
          rotate_left
          · intro V hV
            go_simp
            try with_reducible rfl
          simp only [Act.put, List.setIfInBounds_toArray, List.set_cons_zero, List.set_cons_succ]
          refine takeL (i := 29) (v := ?_) rfl (by kernel_rfl) (by kernel_rfl) (by kernel_rfl) (fun _ _ _ h => h) (Or.inl ⟨by rfl, ?_⟩) hS ?_
          rotate_left
          · intro V hV
            go_simp
            try with_reducible rfl
          simp only [Act.put, List.setIfInBounds_toArray, List.set_cons_zero, List.set_cons_succ]
          refine wpAnyH_done (by kernel_rfl) ?_ _
          have r11 := CPIC w11 M11.out
          have r11a := CROW w11 M11.out
          go_wp2_with (first
            | (go_at_call 26; refine (dcrash_any C11.out.1 (HPOK.out.nil M11.out) HPL.out).mono ?_; rintro e w12 ⟨rfl, d12, m12⟩; rw [HCR.out] at d12; have D12 : Hid (DiskAt w12 w.heap.size db (live L2 [])) := Lib.hid d12; have M12 := Lib.hid (DM.nilTrans M11.out (Nat.le_refl _) m12); clear d12 m12)
            | (go_at_call 31; refine (a8open D12.out M12.out.size (at_ := 0) (i := 0) (by rw [HL22.out]; omega) (by rw [HL22.out]; omega) rfl).mono ?_; rintro e w13 ⟨cb2, rfl, a13, m13⟩; rw [HOP2.out] at a13; have A13 := Lib.hid a13; have M13 := Lib.hid (M12.out.trans m13); clear a13 m13)
            | (go_at_call 38; refine (a8turn A15.out rfl rfl).mono ?_; rintro e w16 ⟨rfl, m16⟩; have A16 := Lib.hid (A15.out.nil m16); have M16 := Lib.hid (M15.out.trans m16); clear m16)
            | (go_at_call 38; refine (a8turn A14.out rfl rfl).mono ?_; rintro e w15 ⟨rfl, m15⟩; have A15 := Lib.hid (A14.out.nil m15); have M15 := Lib.hid (M14.out.trans m15); clear m15)
            | (go_at_call 37; refine (a8get A13.out H8D.out HQ.out).mono ?_; rintro e w14 ⟨A14, c14, rfl, s14, m14⟩; have A14 := Lib.hid (A13.out.nil m14); have v14 := conv8 HQ.out s14; have M14 := Lib.hid (M13.out.trans m14); have M14' := M14.out; have r14 := CROW _ M14.out; clear s14 m14))
          exact ⟨⟨i + 1, L2, k8, hlt, by rw [H8D.out], rfl, by go_num, A16.out.disk, HL22.out, HOP2.out, HG8.out, M16.out⟩, by simp [intOf]; omega⟩
        · have hB : k8.data = k.data := by rcases h8d with h | h; exact absurd h hA; exact h
          have H8D := Lib.hid hB
          have hne := strOf_ne (show k.data ≠ r.xs by rw [← hB]; exact hA)
          clear h7d h8d hA hB
          go_wp2_with (first
            | (go_at_call 31; refine (a8open HD.out HMO.out.size (at_ := 0) (i := 0) (by rw [HL2.out]; omega) (by rw [HL2.out]; omega) rfl).mono ?_; rintro e w5 ⟨cb, rfl, a5, m5⟩; rw [HOP.out] at a5; have A5 := Lib.hid a5; have M5 := Lib.hid (HMO.out.trans m5); have r5a := CROW _ M5.out; have r5b := CPIC _ M5.out; have y5 := CF _ M5.out; clear a5 m5)
            | (go_at_call 37; refine (a8get A5.out rfl rfl).mono ?_; rintro e w6 ⟨A6, c6, rfl, s6, m6⟩; have A6 := Lib.hid (A5.out.nil m6); have v6 := conv8 rfl s6; have M6 := Lib.hid (M5.out.trans m6); clear s6 m6)
            | (go_at_call 38; refine (a8turn A6.out rfl rfl).mono ?_; rintro e w7 ⟨rfl, m7⟩; have A7 := Lib.hid (A6.out.nil m7); have M7 := Lib.hid (M6.out.trans m7); have r7a := CROW _ M7.out; have r7b := CPIC _ M7.out; have y7 := CF _ M7.out; clear m7)
            | (go_at_call 21; refine (dstop_any A7.out.disk (k := (kk : Int)) (by omega)).mono ?_; rintro e w8 ⟨rfl, d8, m8⟩; rw [STOP.out] at d8; have C8 := Lib.hid (A7.out.all.dm m8 d8); have M8 := Lib.hid (DM.nilTrans M7.out (Nat.le_refl _) m8); have r8a := CROW _ M8.out; have r8b := CPIC _ M8.out; clear d8 m8)
            | (go_at_call 33; refine (HSET.out _ _ C8.out M8.out).mono ?_; rintro e w9 ⟨rfl, a9, m9⟩; have C9 := Lib.hid a9; have M9 := Lib.hid (CM.nilTrans M8.out (Nat.le_refl _) m9); clear a9 m9))
          have v1 := fun W (h : Mods Nil w W) => conv8 HQ.out (HROK.out.mods h)
          refine wp_region_held_drew (S := (fun W => Mods Nil w W)) (by kernel_rfl) M9.out.drew (fun hS => ?_)
          refine takeL (i := 0) (v := ?_) rfl (by kernel_rfl) (by kernel_rfl) (by kernel_rfl) (fun _ _ _ h => h) (Or.inl ⟨by rfl, ?_⟩) hS ?_
          rotate_left
          · intro V hV
            go_simp
            try with_reducible rfl
          simp only [Act.put, List.setIfInBounds_toArray, List.set_cons_zero, List.set_cons_succ]
          refine takeL (i := 1) (v := ?_) rfl (by kernel_rfl) (by kernel_rfl) (by kernel_rfl) (fun _ _ _ h => h) (Or.inl ⟨by rfl, ?_⟩) hS ?_
          rotate_left
          · intro V hV
            go_simp
            try with_reducible rfl
          simp only [Act.put, List.setIfInBounds_toArray, List.set_cons_zero, List.set_cons_succ]
          refine takeL (i := 2) (v := ?_) rfl (by kernel_rfl) (by kernel_rfl) (by kernel_rfl) (fun _ _ _ h => h) (Or.inl ⟨by rfl, ?_⟩) hS ?_
          rotate_left
          · intro V hV
            go_simp
            try with_reducible rfl
          simp only [Act.put, List.setIfInBounds_toArray, List.set_cons_zero, List.set_cons_succ]
          refine takeL (i := 3) rfl (by kernel_rfl) (by kernel_rfl) (by kernel_rfl) (fun _ _ _ h => h) (Or.inr ⟨by rfl, rfl⟩) hS ?_
          simp only [Act.put, List.setIfInBounds_toArray, List.set_cons_zero, List.set_cons_succ]
          refine takeL (i := 4) rfl (by kernel_rfl) (by kernel_rfl) (by kernel_rfl) (fun _ _ _ h => h) (Or.inr ⟨by rfl, rfl⟩) hS ?_
          simp only [Act.put, List.setIfInBounds_toArray, List.set_cons_zero, List.set_cons_succ]
          refine takeL (i := 5) rfl (by kernel_rfl) (by kernel_rfl) (by kernel_rfl) (fun _ _ _ h => h) (Or.inr ⟨by rfl, rfl⟩) hS ?_
          simp only [Act.put, List.setIfInBounds_toArray, List.set_cons_zero, List.set_cons_succ]
          refine takeL (i := 6) rfl (by kernel_rfl) (by kernel_rfl) (by kernel_rfl) (fun _ _ _ h => h) (Or.inr ⟨by rfl, rfl⟩) hS ?_
          simp only [Act.put, List.setIfInBounds_toArray, List.set_cons_zero, List.set_cons_succ]
          refine takeL (i := 7) rfl (by kernel_rfl) (by kernel_rfl) (by kernel_rfl) (fun _ _ _ h => h) (Or.inr ⟨by rfl, rfl⟩) hS ?_
          simp only [Act.put, List.setIfInBounds_toArray, List.set_cons_zero, List.set_cons_succ]
          refine takeL (i := 8) rfl (by kernel_rfl) (by kernel_rfl) (by kernel_rfl) (fun _ _ _ h => h) (Or.inr ⟨by rfl, rfl⟩) hS ?_
          simp only [Act.put, List.setIfInBounds_toArray, List.set_cons_zero, List.set_cons_succ]
          refine takeL (i := 9) rfl (by kernel_rfl) (by kernel_rfl) (by kernel_rfl) (fun _ _ _ h => h) (Or.inr ⟨by rfl, rfl⟩) hS ?_
          simp only [Act.put, List.setIfInBounds_toArray, List.set_cons_zero, List.set_cons_succ]
          refine takeL (i := 10) rfl (by kernel_rfl) (by kernel_rfl) (by kernel_rfl) (fun _ _ _ h => h) (Or.inr ⟨by rfl, rfl⟩) hS ?_
          simp only [Act.put, List.setIfInBounds_toArray, List.set_cons_zero, List.set_cons_succ]
          refine takeL (i := 11) rfl (by kernel_rfl) (by kernel_rfl) (by kernel_rfl) (fun _ _ _ h => h) (Or.inr ⟨by rfl, rfl⟩) hS ?_
          simp only [Act.put, List.setIfInBounds_toArray, List.set_cons_zero, List.set_cons_succ]
          refine takeL (i := 12) rfl (by kernel_rfl) (by kernel_rfl) (by kernel_rfl) (fun _ _ _ h => h) (Or.inr ⟨by rfl, rfl⟩) hS ?_
          simp only [Act.put, List.setIfInBounds_toArray, List.set_cons_zero, List.set_cons_succ]
          refine takeL (i := 13) rfl (by kernel_rfl) (by kernel_rfl) (by kernel_rfl) (fun _ _ _ h => h) (Or.inr ⟨by rfl, rfl⟩) hS ?_
          simp only [Act.put, List.setIfInBounds_toArray, List.set_cons_zero, List.set_cons_succ]
          refine takeL (i := 14) rfl (by kernel_rfl) (by kernel_rfl) (by kernel_rfl) (fun _ _ _ h => h) (Or.inr ⟨by rfl, rfl⟩) hS ?_
          simp only [Act.put, List.setIfInBounds_toArray, List.set_cons_zero, List.set_cons_succ]
          refine takeL (i := 15) rfl (by kernel_rfl) (by kernel_rfl) (by kernel_rfl) (fun _ _ _ h => h) (Or.inr ⟨by rfl, rfl⟩) hS ?_
          simp only [Act.put, List.setIfInBounds_toArray, List.set_cons_zero, List.set_cons_succ]
          refine takeL (i := 16) rfl (by kernel_rfl) (by kernel_rfl) (by kernel_rfl) (fun _ _ _ h => h) (Or.inr ⟨by rfl, rfl⟩) hS ?_
          simp only [Act.put, List.setIfInBounds_toArray, List.set_cons_zero, List.set_cons_succ]
          refine takeL (i := 17) rfl (by kernel_rfl) (by kernel_rfl) (by kernel_rfl) (fun _ _ _ h => h) (Or.inr ⟨by rfl, rfl⟩) hS ?_
          simp only [Act.put, List.setIfInBounds_toArray, List.set_cons_zero, List.set_cons_succ]
          refine takeL (i := 18) (v := ?_) rfl (by kernel_rfl) (by kernel_rfl) (by kernel_rfl) (fun _ _ _ h => h) (Or.inl ⟨by rfl, ?_⟩) hS ?_
          rotate_left
          · intro V hV
            go_simp
            try with_reducible rfl
          simp only [Act.put, List.setIfInBounds_toArray, List.set_cons_zero, List.set_cons_succ]
          refine takeL (i := 19) (v := ?_) rfl (by kernel_rfl) (by kernel_rfl) (by kernel_rfl) (fun _ _ _ h => h) (Or.inl ⟨by rfl, ?_⟩) hS ?_
          rotate_left
          · intro V hV
            go_simp
            try with_reducible rfl
          simp only [Act.put, List.setIfInBounds_toArray, List.set_cons_zero, List.set_cons_succ]
          refine takeL (i := 20) (v := ?_) rfl (by kernel_rfl) (by kernel_rfl) (by kernel_rfl) (fun _ _ _ h => h) (Or.inl ⟨by rfl, ?_⟩) hS ?_
          rotate_left
          · intro V hV
            go_simp
            try with_reducible rfl
          simp only [Act.put, List.setIfInBounds_toArray, List.set_cons_zero, List.set_cons_succ]
          refine takeL (i := 21) (v := ?_) rfl (by kernel_rfl) (by kernel_rfl) (by kernel_rfl) (fun _ _ _ h => h) (Or.inl ⟨by rfl, ?_⟩) hS ?_
          rotate_left
          · intro V hV
            go_simp
            try with_reducible rfl
          simp only [Act.put, List.setIfInBounds_toArray, List.set_cons_zero, List.set_cons_succ]
          refine takeL (i := 22) (v := ?_) rfl (by kernel_rfl) (by kernel_rfl) (by kernel_rfl) (fun _ _ _ h => h) (Or.inl ⟨by rfl, ?_⟩) hS ?_
          rotate_left
          · intro V hV
            go_simp
            try with_reducible rfl
          simp only [Act.put, List.setIfInBounds_toArray, List.set_cons_zero, List.set_cons_succ]
          refine takeL (i := 23) (v := ?_) rfl (by kernel_rfl) (by kernel_rfl) (by kernel_rfl) (fun _ _ _ h => h) (Or.inl ⟨by rfl, ?_⟩) hS ?_
          rotate_left
          · intro V hV
            go_simp
            try with_reducible rfl
          simp only [Act.put, List.setIfInBounds_toArray, List.set_cons_zero, List.set_cons_succ]
          refine takeL (i := 26) (v := ?_) rfl (by kernel_rfl) (by kernel_rfl) (by kernel_rfl) (fun _ _ _ h => h) (Or.inl ⟨by rfl, ?_⟩) hS ?_
          rotate_left
          · intro V hV
            go_simp
            try with_reducible rfl
          simp only [Act.put, List.setIfInBounds_toArray, List.set_cons_zero, List.set_cons_succ]
          refine wpAnyH_ready (rs := [24]) (by kernel_rfl) (by simp) (readyL rfl ?_ AllReadyH.nil)
          intro K' hK
          rw [if_pos (by rfl)]
          refine wpH_call _ _ ?_ ((cget_any (C9.out.nil (Mods.refl Nil w9).drew).2 (n := k.data.length) (by rw [H7D.out])).mono ?_)
          · go_simp
          rintro e w11 ⟨A11, c11, rfl, s11, m11⟩
          have C11 := Lib.hid ((C9.out.nil (Mods.refl Nil w9).drew).nil m11)
          rw [H7D.out] at s11
          have v11 := conv8 rfl s11
          have M11 := Lib.hid (M9.out.drew.trans m11)
          clear s11 m11
          refine ⟨_, rfl, ?_⟩
          refine hK.out _ _ M11.out (fun hS => ?_)
          clear hK K'
          simp only [Act.put, List.setIfInBounds_toArray, List.set_cons_zero, List.set_cons_succ]
          refine wpAnyH_ready (rs := [25]) (by kernel_rfl) (by simp) (readyL rfl ?_ AllReadyH.nil)
          intro K' hK
          rw [if_pos (by rfl)]
          refine wpH_value (v := ?_) ?_ ?_
          rotate_left
          · go_simp
            try with_reducible rfl
          refine hK.out _ _ M11.out (fun hS => ?_)
          clear hK K'
          simp only [Act.put, List.setIfInBounds_toArray, List.set_cons_zero, List.set_cons_succ]
          refine takeL (i := 27) (v := ?_) rfl (by kernel_rfl) (by kernel_rfl) (by kernel_rfl) (fun _ _ _ h => h) (Or.inl ⟨by rfl, ?_⟩) hS ?_
          rotate_left
          · intro V hV
            go_simp
            try with_reducible rfl
          simp only [Act.put, List.setIfInBounds_toArray, List.set_cons_zero, List.set_cons_succ]
          refine takeL (i := 28) (v := ?_) rfl (by kernel_rfl) (by kernel_rfl) (by kernel_rfl) (fun _ _ _ h => h) (Or.inl ⟨by rfl, ?_⟩) hS ?_
          rotate_left
          · intro V hV
            go_simp
            try with_reducible rfl
          simp only [Act.put, List.setIfInBounds_toArray, List.set_cons_zero, List.set_cons_succ]
          refine takeL (i := 29) (v := ?_) rfl (by kernel_rfl) (by kernel_rfl) (by kernel_rfl) (fun _ _ _ h => h) (Or.inl ⟨by rfl, ?_⟩) hS ?_
          rotate_left
          · intro V hV
            go_simp
            try with_reducible rfl
          simp only [Act.put, List.setIfInBounds_toArray, List.set_cons_zero, List.set_cons_succ]
          refine wpAnyH_done (by kernel_rfl) ?_ _
          have r11 := CPIC w11 M11.out
          have r11a := CROW w11 M11.out
          go_wp2_with (first
            | (go_at_call 26; refine (dcrash_any C11.out.1 (HPOK.out.nil M11.out) HPL.out).mono ?_; rintro e w12 ⟨rfl, d12, m12⟩; rw [HCR.out] at d12; have D12 : Hid (DiskAt w12 w.heap.size db (live L2 [])) := Lib.hid d12; have M12 := Lib.hid (DM.nilTrans M11.out (Nat.le_refl _) m12); clear d12 m12)
            | (go_at_call 31; refine (a8open D12.out M12.out.size (at_ := 0) (i := 0) (by rw [HL22.out]; omega) (by rw [HL22.out]; omega) rfl).mono ?_; rintro e w13 ⟨cb2, rfl, a13, m13⟩; rw [HOP2.out] at a13; have A13 := Lib.hid a13; have M13 := Lib.hid (M12.out.trans m13); clear a13 m13)
            | (go_at_call 38; refine (a8turn A15.out rfl rfl).mono ?_; rintro e w16 ⟨rfl, m16⟩; have A16 := Lib.hid (A15.out.nil m16); have M16 := Lib.hid (M15.out.trans m16); clear m16)
            | (go_at_call 38; refine (a8turn A14.out rfl rfl).mono ?_; rintro e w15 ⟨rfl, m15⟩; have A15 := Lib.hid (A14.out.nil m15); have M15 := Lib.hid (M14.out.trans m15); clear m15)
            | (go_at_call 37; refine (a8get A13.out H8D.out rfl).mono ?_; rintro e w14 ⟨A14, c14, rfl, s14, m14⟩; have A14 := Lib.hid (A13.out.nil m14); have v14 := conv8 rfl s14; have M14 := Lib.hid (M13.out.trans m14); have M14' := M14.out; have r14 := CROW _ M14.out; clear s14 m14))
          exact ⟨⟨i + 1, L2, k8, hlt, by rw [H8D.out], rfl, by go_num, A16.out.disk, HL22.out, HOP2.out, HG8.out, M16.out⟩, by simp [intOf]; omega⟩
    · obtain rfl : i = n := by omega
      clear hd hL2 hop hg hmo
      go_wp2_with (first
        | (go_at_call 31; refine (copen_nil _ 0).mono ?_; rintro e w5 ⟨rfl, m5⟩; have M5 := Lib.hid (HMO.out.trans m5); clear m5)
        | (go_at_call 33; refine (cset_nil _ none 0 0).mono ?_; rintro e w6 ⟨rfl, rfl⟩)
        | (go_at_call 37; refine (cget_nil _).mono ?_; rintro e w7 ⟨rfl, rfl⟩)
        | (go_at_call 38; refine (cturn_nil _).mono ?_; rintro e w8 ⟨rfl, rfl⟩))
      go_ret
      exact ⟨rfl, M5.out⟩
end Go.Proofs.Ytgpnddgkbjlehaa
