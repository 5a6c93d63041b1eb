/- SegmentPlays' walk. -/
import Derived.Test.YtdllgmhipenidaaPlays7
import Derived.Test.YtdllgmhipenidaaAwake07
import Derived.Test.YtdllgmhipenidaaQK
namespace Go.Proofs.Ytdllgmhipenidaa
set_option maxRecDepth 1000000
open Go.RowKit
set_option linter.unusedVariables false
set_option linter.unusedSimpArgs false

theorem recX_le {xs : List UInt8} {q : Nat} (h : xs.length = q) (hq : q ≤ 60) (lg : Bool) : (recX lg xs).length ≤ 420 := by
  unfold recX
  split
  · rw [repX_length]; omega
  · omega
theorem needP_420 {q : Nat} (h : q ≤ 420) : needP q ≤ 11 := by unfold needP; split <;> omega
theorem int_bne_self (x : Int) : (x != x) = false := by simp
/-- A fresh disk's blocks have no stamps. -/
theorem fresh_stamp (N a m : Nat) (h : a + m ≤ N) : stampP (segL (live (List.replicate N zeros64) []) a m) = 0 := by
  have : stampP (segL (live (List.replicate N zeros64) []) a m) ≤ 0 := stampP_le (fun b hb => by
    obtain ⟨i, hi, e⟩ := mem_getD hb
    rw [segL_length] at hi
    rw [← e, segL_get hi]
    have hz : PD.lat (live (List.replicate N zeros64) []) (a + i) = zeros64 := by
      unfold PD.lat
      simp [live, lastW, List.getD_eq_getElem?_getD, show a + i < N by omega]
    rw [hz]
    decide)
  omega
set_option maxHeartbeats 12800000 in
theorem segmentPlays_main (w : World) {N a : Nat} (h24 : N ≤ 24) (h3 : 3 ≤ N) (ha : a + (N - 2) ≤ N) {A : Option Addr} {c n : Nat} {l : List (List Fv)} (h : Acts w A n c [.int .i64, .int .i64, .bytes, .bool] l) :
    Calls Try.prog 3 #[.int .i64 (N : Int), .int .i64 (a : Int), .slice A n c] w fun e w' => e = .returned (.bool true) ∧ Mods Nil w w' := by
  have h8I : decide ((24 : Int) < (N : Int)) = false := by simp; omega
  have h1I : decide ((N : Int) < 1) = false := by simp; omega
  obtain ⟨m, hm⟩ : ∃ m, N - 2 = m := ⟨_, rfl⟩
  rw [hm] at ha
  have hmI : (N : Int) - 2 = (m : Int) := by omega
  have hm1 : 1 ≤ m := by omega
  have HA := Lib.hid h
  have HR := Lib.hid (fun W : World => rnew_any W (n := N) (by omega) (by omega))
  have hfs := fresh_stamp N a m ha
  have HOP : Hid (∀ (W : World) db, DiskAt W w.heap.size db (live (List.replicate N zeros64) []) → w.heap.size ≤ W.heap.size → Calls Try.prog 15 #[.pointer (some ⟨db, 0, none⟩), .int .i64 (a : Int), .int .i64 (m : Int)] W fun e w' => ∃ sb, e = .returned (.tuple #[.pointer (some ⟨sb, 0, none⟩), .int .i64 0]) ∧ SegAt w' w.heap.size sb db (live (List.replicate N zeros64) []) (segOpen (segL (live (List.replicate N zeros64) []) a m) a) ∧ Mods Nil W w') := Lib.hid (fun W db hd hb => sopen_ok hd hb (by simp [live]; omega) hm1 (by simp [live]; omega) rfl (by rw [hfs]; omega))
  have HRO : Hid (∀ (W : World) A c, (live (List.replicate N zeros64) []).Ok → RdAt W A c none 0 (live (List.replicate N zeros64) []) → Calls Try.prog 16 #[.agg #[.slice A N c, .slice none 0 0, .int .i64 (-1), .bool false], .int .i64 (a : Int), .int .i64 (m : Int)] W fun z w' => ∃ A2 c2, z = .returned (.tuple #[.agg (rsC A2 c2 (segOpen (segL (live (List.replicate N zeros64) []) a m) a)), .int .i64 0]) ∧ RsAt w' A2 c2 (segOpen (segL (live (List.replicate N zeros64) []) a m) a) ∧ Mods Nil W w') := Lib.hid (fun W A c hok hr => by
    have h := r7open_any W hr hok (by simp [live]; omega) rfl (n1 := N) (n2 := 0) (left := -1) (by simp [live]) rfl rfl hm1 (by omega)
    refine h.mono ?_
    rintro z w' ⟨h1, -, h2⟩
    obtain ⟨A2, c2, h4, h5⟩ := h1 (by rw [hfs]; omega)
    exact ⟨A2, c2, h4, h5, h2⟩)
  obtain ⟨s0, hs0⟩ : ∃ s0, segOpen (segL (live (List.replicate N zeros64) []) a m) a = s0 := ⟨_, rfl⟩
  rw [hs0] at HOP HRO
  clear h hfs hs0 hm
  go_enter Try.func3, Try.ntmps3
  go_wp2_with (first
    | (go_at_call 12; refine (awake7_any _).mono ?_; rintro e w1 ⟨rfl, m1⟩; have M1 := Lib.hid m1; clear m1)
    | (go_at_call 13; refine (lnew w1 (base := w.heap.size) (n := N) M1.out.size rfl (by omega) (by omega)).mono ?_; rintro e w2 ⟨db, rfl, d2, m2⟩; have D2 := Lib.hid d2; have M2 := Lib.hid (M1.out.trans m2); clear d2 m2)
    | (go_at_call 14; refine (HR.out _).mono ?_; rintro e w3 ⟨A3, c3, rfl, s3, m3, t3⟩; have D3 := Lib.hid (D2.out.nil m3); have M3 := Lib.hid (M2.out.trans m3); have S3 := Lib.hid s3; have T3 := Lib.hid t3; clear s3 t3 m3)
    | (go_at_call 15; refine (HOP.out _ _ (D3.out.nil ((Mods.refl Nil w3).alloc (.cells #[.slice A3 N c3, .slice none 0 0, .int .i64 (-1), .bool false] 31))) (by simp; have := M3.out.size; omega)).mono ?_; rintro e w4 ⟨sb, rfl, ca, m4⟩; have CA := Lib.hid ca; have B4 := Lib.hid ((Blk.new w3 31 #[.slice A3 N c3, .slice none 0 0, .int .i64 (-1), .bool false]).mods m4 (fun h => h)); have M34 := ((Mods.refl Nil w3).alloc (.cells #[.slice A3 N c3, .slice none 0 0, .int .i64 (-1), .bool false] 31)).trans m4; have M4 := Lib.hid (M3.out.trans M34); have R4 : Hid (RdAt w4 A3 c3 none 0 (live (List.replicate N zeros64) [])) := Lib.hid ⟨S3.out.mods M34 (fun _ _ h => h), Sl2.none_ _, T3.out.mods M34 (fun _ _ h => h), Ty6.none_ _ _⟩; obtain ⟨⟨z0, z1, z2, z3⟩, -⟩ := B4.out.four6; clear ca m4 M34)
    | (go_at_call 16; refine (HRO.out _ _ _ CA.out.1.ok7 R4.out).mono ?_; rintro e w5 ⟨A6, c6, rfl, rs5, m5⟩; have M5 := Lib.hid m5; have RS5 := Lib.hid rs5; clear m5 rs5 z0 z1 z2 z3))
  have P0 : Hid (Q7 w (w5.alloc (.cells (rsC A6 c6 s0) 39)) db sb w3.heap.size w5.heap.size N A3 c3 none 0 A6 c6 (live (List.replicate N zeros64) []) s0 (live (List.replicate N zeros64) []) s0) := by
    have m6 := M5.out.trans ((Mods.refl Nil w5).alloc (.cells (rsC A6 c6 s0) 39))
    have hs := B4.out.lt
    have hs2 := M5.out.size
    exact Lib.hid ⟨CA.out.nil m6, B4.out.mods m6 (fun h => h), Blk.new _ _ _, ⟨M3.out.size, (M4.out.trans M5.out).size, by omega⟩, R4.out.mods m6, RS5.out.mods ((Mods.refl Nil w5).alloc _), by simp [live], M4.out.trans m6⟩
  obtain ⟨g, hg⟩ : ∃ g, w3.heap.size = g := ⟨_, rfl⟩
  obtain ⟨hh, hhh⟩ : ∃ hh, w5.heap.size = hh := ⟨_, rfl⟩
  rw [hg, hhh] at P0
  rw [hg, hhh]
  clear D2 D3 M1 M2 M3 S3 T3 HR HOP HRO CA B4 M4 R4 M5 RS5 hg hhh h8I h1I
  go_loopw [12, 16] (fun x y wr => (∃ (j : Nat) (d : PD) (s : PSeg) (sb : Nat) (A1 : Option Addr) (c1 : Nat) (B1 : Option Addr) (k1 : Nat) (A2 : Option Addr) (c2 : Nat), j ≤ n ∧ j ≤ 30 ∧ x = .pointer (some ⟨sb, 0, none⟩) ∧ y = .int .i64 (j : Int) ∧ Q7 w wr db sb g hh N A1 c1 B1 k1 A2 c2 d s d s ∧ d.W.length ≤ 11 * j) ∨ (∃ j : Nat, j ≤ n ∧ j ≤ 30 ∧ x = .pointer none ∧ y = .int .i64 (j : Int) ∧ Mods Nil w wr)) (fun _ y _ => n - (intOf y).toNat)
  case atStart => exact .inl ⟨0, _, _, _, _, _, _, _, _, _, Nat.zero_le _, by omega, rfl, rfl, P0.out, Nat.le_refl _⟩
  case round =>
    clear P0
    rcases hrel with ⟨j, d, s, sb, A1, c1, B1, k1, A2, c2, hj, hj30, rfl, rfl, hpl, hw⟩ | ⟨j, hj, hj30, rfl, rfl, hmo⟩
    · have HP := Lib.hid hpl
      have HW := Lib.hid hw
      clear hpl hw
      by_cases hlt : j < n
      · have hltI : (j : Int) < (n : Int) := by omega
        by_cases hl4 : j < 30
        · have hl4I : (j : Int) < 30 := by omega
          obtain ⟨bA, off, kd, z, A9, c9, xs, q, lg, rfl, y0, y1, y2, y3, hxs, hs0, hzl⟩ := HA.out.act_at7 hlt
          have HS0 := Lib.hid hs0
          have hbl := HP.out.mods.block bA (World.block_lt_of_cell? w _ y0) (fun h => h)
          rw [← World.cell?_of_block hbl] at y0 y1 y2 y3
          clear hs0 hbl
          by_cases h80 : 60 < q
          · have h80I : (60 : Int) < (q : Int) := by omega
            clear hxs
            go_wp2_with fail
            go_ret
            exact ⟨rfl, HP.out.mods.alloc _⟩
          · have h80I : decide ((60 : Int) < (q : Int)) = false := by simp; omega
            have hand : bits .and .i64 kd 15 = kd % 16 := i64_and15p kd
            obtain ⟨r, hr⟩ : ∃ r, kd % 16 = r := ⟨_, rfl⟩
            rw [hr] at hand
            have hr0 : 0 ≤ r ∧ r < 16 := by omega
            have HLO := Lib.hid HP.out.all.1.lo7
            have HOK := Lib.hid HP.out.all.1.ok7
            have HSOK := Lib.hid HP.out.all.sok
            have hW9 : d.W.length ≤ 900 := by have := HW.out; omega
            have HXS := Lib.hid hxs
            have HLEN := Lib.hid HP.out.len
            clear hr hxs
            have h800 : q ≤ 60 := by omega
            by_cases hrw : r < 5
            · clear hzl
              have HSB := Lib.hid (Sb.arg (base := w.heap.size) (w := w) HS0.out (Nat.le_refl _))
              have HREC := Lib.hid (fun (W : World) (hW : Mods Nil w W) => record_any W (kd := kd) (nn := z) HXS.out (HSB.out.nil hW) (by omega) lg)
              obtain ⟨b, hb⟩ : ∃ b, recX lg xs = b := ⟨_, rfl⟩
              rw [hb] at HREC
              have hbm : b.length ≤ 420 := by rw [← hb]; exact recX_le HXS.out (by omega) lg
              clear hb
              have hndb : needP b.length ≤ 11 := needP_420 hbm
              have HWR := Lib.hid (fun (W : World) (h : Q7 w W db sb g hh N A1 c1 B1 k1 A2 c2 d s d s) A1' c1' q' (hs : Sb w.heap.size W A1' c1' b) (hq : b.length = q') => h.append hW9 hs hq)
              have HRW := Lib.hid (fun (W : World) (h : RdAt W A1 c1 B1 k1 d) (h2 : RsAt W A2 c2 s) => Q7.rappend HOK.out HSOK.out HLO.out hW9 HLEN.out (b := b) rfl (by omega) W h h2)
              have HLN := Lib.hid (append_len s d hndb)
              obtain ⟨X, hX⟩ : ∃ X, s.append d b = X := ⟨_, rfl⟩
              rw [hX] at HRW HWR HLN
              obtain ⟨d', s', xx, er⟩ := X
              dsimp only at HRW HWR HLN
              clear hX hndb
              have P4 := Lib.hid (HP.out.nil ((Mods.refl Nil wr).alloc (.cells #[.int .i64 kd, .int .i64 z, .slice A9 q c9, .bool lg] 44)))
              have AB4 := Lib.hid (Blk.new wr 44 #[.int .i64 kd, .int .i64 z, .slice A9 q c9, .bool lg])
              have hW4 : ∃ W4, wr.alloc (.cells #[.int .i64 kd, .int .i64 z, .slice A9 q c9, .bool lg] 44) = W4 := ⟨_, rfl⟩
              have AB4' := AB4.out
              obtain ⟨⟨a0, a1, a2, a3⟩, -⟩ := AB4'.four6
              clear AB4' hW4
              obtain rfl | rfl | rfl | rfl | rfl : r = 0 ∨ r = 1 ∨ r = 2 ∨ r = 3 ∨ r = 4 := by omega
              all_goals as_aux_lemma =>
                go_wp2_with (first
                  | (go_at_call 17; refine (HWR.out _ P5.out _ _ _ S5.out L5.out).mono ?_; rintro e w6 ⟨rfl, p6, m6⟩; have P6 := Lib.hid p6; have AB6 := Lib.hid ((AB4.out.mods M5.out (fun h => h)).sm m6 (by decide)); clear p6 m6)
                  | (go_at_call 18; refine (HREC.out _ P4.out.mods).mono ?_; rintro e w5 ⟨A5, c5, q5, rfl, l5, -, s5, m5⟩; have P5 := Lib.hid (P4.out.nil m5); have S5 := Lib.hid s5; have L5 := Lib.hid l5; have M5 := Lib.hid m5; clear s5 l5 m5 a0 a1 a2 a3))
                have z0 : ∀ V, Mods Nil w6 V → V.cell? ⟨g, 0, none⟩ = some (.slice A1 N c1) := fun V hV => (P6.out.nil hV).box.four6.1.1
                have z1 : ∀ V, Mods Nil w6 V → V.cell? ⟨g, 1, none⟩ = some (.slice B1 d.W.length k1) := fun V hV => (P6.out.nil hV).box.four6.1.2.1
                have z2 : ∀ V, Mods Nil w6 V → V.cell? ⟨g, 2, none⟩ = some (.int .i64 d.left) := fun V hV => (P6.out.nil hV).box.four6.1.2.2.1
                have z3 : ∀ V, Mods Nil w6 V → V.cell? ⟨g, 3, none⟩ = some (.bool d.down) := fun V hV => (P6.out.nil hV).box.four6.1.2.2.2
                have y0 : ∀ V, Mods Nil w6 V → V.cell? ⟨hh, 0, none⟩ = some (.int .i64 (s.start : Int)) := fun V hV => (Blk.eight (g := hh) (t := 39) (P6.out.nil hV).sbox).1.1
                have y1 : ∀ V, Mods Nil w6 V → V.cell? ⟨hh, 1, none⟩ = some (.int .i64 (s.n : Int)) := fun V hV => (Blk.eight (g := hh) (t := 39) (P6.out.nil hV).sbox).1.2.1
                have y2 : ∀ V, Mods Nil w6 V → V.cell? ⟨hh, 2, none⟩ = some (.int .u64 (s.epoch : Int)) := fun V hV => (Blk.eight (g := hh) (t := 39) (P6.out.nil hV).sbox).1.2.2.1
                have y3 : ∀ V, Mods Nil w6 V → V.cell? ⟨hh, 3, none⟩ = some (.slice A2 s.L.length c2) := fun V hV => (Blk.eight (g := hh) (t := 39) (P6.out.nil hV).sbox).1.2.2.2.1
                have y4 : ∀ V, Mods Nil w6 V → V.cell? ⟨hh, 4, none⟩ = some (.int .i64 (s.used : Int)) := fun V hV => (Blk.eight (g := hh) (t := 39) (P6.out.nil hV).sbox).1.2.2.2.2.1
                have y5 : ∀ V, Mods Nil w6 V → V.cell? ⟨hh, 5, none⟩ = some (.int .i64 (s.sure : Int)) := fun V hV => (Blk.eight (g := hh) (t := 39) (P6.out.nil hV).sbox).1.2.2.2.2.2.1
                have y6 : ∀ V, Mods Nil w6 V → V.cell? ⟨hh, 6, none⟩ = some (.int .i64 (s.gone : Int)) := fun V hV => (Blk.eight (g := hh) (t := 39) (P6.out.nil hV).sbox).1.2.2.2.2.2.2.1
                have y7 : ∀ V, Mods Nil w6 V → V.cell? ⟨hh, 7, none⟩ = some (.int .i64 s.err) := fun V hV => (Blk.eight (g := hh) (t := 39) (P6.out.nil hV).sbox).1.2.2.2.2.2.2.2
                have a0 : ∀ V, Mods Nil w6 V → V.cell? ⟨wr.heap.size, 0, none⟩ = some (.int .i64 kd) := fun V hV => (AB6.out.mods hV (fun h => h)).four6.1.1
                have a1 : ∀ V, Mods Nil w6 V → V.cell? ⟨wr.heap.size, 1, none⟩ = some (.int .i64 z) := fun V hV => (AB6.out.mods hV (fun h => h)).four6.1.2.1
                have a2 : ∀ V, Mods Nil w6 V → V.cell? ⟨wr.heap.size, 2, none⟩ = some (.slice A9 q c9) := fun V hV => (AB6.out.mods hV (fun h => h)).four6.1.2.2.1
                have a3 : ∀ V, Mods Nil w6 V → V.cell? ⟨wr.heap.size, 3, none⟩ = some (.bool lg) := fun V hV => (AB6.out.mods hV (fun h => h)).four6.1.2.2.2
                refine qk_region (S := fun V => Mods Nil w6 V) (k := 5) 15 (by kernel_rfl) rfl ?_
                have hS0 : Mods Nil w6 w6.drew := (Mods.refl Nil w6).drew
                refine qk_take 0 14 rfl (by kernel_rfl) (by kernel_rfl) (by kernel_rfl) (by kernel_rfl) (by kernel_rfl) (fun _ _ _ h => h) (by rfl) (v := ?_) ?_ hS0 ?_
                rotate_left
                · intro V hV
                  go_simp
                  try with_reducible rfl
                simp only [List.getElem_toArray, List.getElem_cons_succ, List.getElem_cons_zero, Act.put, List.setIfInBounds_toArray, List.set_cons_zero, List.set_cons_succ]
                refine qk_take 1 13 rfl (by kernel_rfl) (by kernel_rfl) (by kernel_rfl) (by kernel_rfl) (by kernel_rfl) (fun _ _ _ h => h) (by rfl) (v := ?_) ?_ hS0 ?_
                rotate_left
                · intro V hV
                  go_simp
                  try with_reducible rfl
                simp only [List.getElem_toArray, List.getElem_cons_succ, List.getElem_cons_zero, Act.put, List.setIfInBounds_toArray, List.set_cons_zero, List.set_cons_succ]
                refine qk_value 2 12 rfl (by kernel_rfl) (by rfl) (v := ?_) ?_ hS0 ?_
                rotate_left
                · go_simp
                  try with_reducible rfl
                simp only [List.getElem_toArray, List.getElem_cons_succ, List.getElem_cons_zero, Act.put, List.setIfInBounds_toArray, List.set_cons_zero, List.set_cons_succ]
                refine qk_call 3 11 rfl (by kernel_rfl) (by rfl) _ _ ?_ ((HREC.out _ (P6.out.nil hS0).mods).mono ?_)
                · go_simp
                rintro e w7 ⟨A5b, c5b, q5b, rfl, l5, -, s5, m5⟩
                refine ⟨_, rfl, hS0.trans m5, ?_⟩
                simp only [List.getElem_toArray, List.getElem_cons_succ, List.getElem_cons_zero, Act.put, List.setIfInBounds_toArray, List.set_cons_zero, List.set_cons_succ]
                have hS1 := hS0.trans m5
                have cv := conv7 l5 s5.1
                refine qk_value 4 10 rfl (by kernel_rfl) (by rfl) (v := ?_) ?_ hS1 ?_
                rotate_left
                · go_simp
                  try with_reducible rfl
                simp only [List.getElem_toArray, List.getElem_cons_succ, List.getElem_cons_zero, Act.put, List.setIfInBounds_toArray, List.set_cons_zero, List.set_cons_succ]
                refine qk_last 9 rfl (by kernel_rfl) (by rfl) _ _ ?_ ((HRW.out _ (P6.out.nil hS1).ref (P6.out.nil hS1).rs).mono ?_)
                · go_simp
                  try rfl
                rintro e w8 ⟨A7, c7, B7, k7, A8, c8, rfl, r7, s7, m8⟩
                refine ⟨_, rfl, ?_⟩
                simp only [List.getElem_toArray, List.getElem_cons_succ, List.getElem_cons_zero, Act.put, List.setIfInBounds_toArray, List.set_cons_zero, List.set_cons_succ]
                refine qt_take 6 8 rfl (by kernel_rfl) (by kernel_rfl) (by kernel_rfl) (fun _ _ _ h => h) (by rfl) (v := ?_) ?_ ?_
                rotate_left
                · intro V
                  go_simp
                  try with_reducible rfl
                simp only [List.getElem_toArray, List.getElem_cons_succ, List.getElem_cons_zero, Act.put, List.setIfInBounds_toArray, List.set_cons_zero, List.set_cons_succ]
                refine qt_take 7 7 rfl (by kernel_rfl) (by kernel_rfl) (by kernel_rfl) (fun _ _ _ h => h) (by rfl) (v := ?_) ?_ ?_
                rotate_left
                · intro V
                  go_simp
                  try with_reducible rfl
                simp only [List.getElem_toArray, List.getElem_cons_succ, List.getElem_cons_zero, Act.put, List.setIfInBounds_toArray, List.set_cons_zero, List.set_cons_succ]
                refine qt_take 8 6 rfl (by kernel_rfl) (by kernel_rfl) (by kernel_rfl) (fun _ _ _ h => h) (by rfl) (v := ?_) ?_ ?_
                rotate_left
                · intro V
                  go_simp
                  try with_reducible rfl
                simp only [List.getElem_toArray, List.getElem_cons_succ, List.getElem_cons_zero, Act.put, List.setIfInBounds_toArray, List.set_cons_zero, List.set_cons_succ]
                refine qt_take 9 5 rfl (by kernel_rfl) (by kernel_rfl) (by kernel_rfl) (fun _ _ _ h => h) (by rfl) (v := ?_) ?_ ?_
                rotate_left
                · intro V
                  go_simp
                  try with_reducible rfl
                simp only [List.getElem_toArray, List.getElem_cons_succ, List.getElem_cons_zero, Act.put, List.setIfInBounds_toArray, List.set_cons_zero, List.set_cons_succ]
                refine qt_take 10 4 rfl (by kernel_rfl) (by kernel_rfl) (by kernel_rfl) (fun _ _ _ h => h) (by rfl) (v := ?_) ?_ ?_
                rotate_left
                · intro V
                  go_simp
                  try with_reducible rfl
                simp only [List.getElem_toArray, List.getElem_cons_succ, List.getElem_cons_zero, Act.put, List.setIfInBounds_toArray, List.set_cons_zero, List.set_cons_succ]
                refine qt_list 11 4 rfl (by kernel_rfl) ?_
                simp only [List.drop_succ_cons, List.drop_zero]
                have P7 := Lib.hid (P6.out.nil (hS1.trans m8))
                have R7 := Lib.hid r7
                have S7 := Lib.hid s7
                clear r7 s7 m8 hS1 hS0 cv s5 m5 l5 z0 z1 z2 z3 y0 y1 y2 y3 y4 y5 y6 y7 a0 a1 a2 a3
                have hxx : (xx != xx) = false := by simp
                go_wp2_with (first
                  | (refine wpList_store_mk rfl 31 (.tmp 10) (.tmp 142) rfl rfl g rfl 31 #[.slice A1 N c1, .slice B1 d.W.length k1, .int .i64 d.left, .bool d.down] #[.slice A7 N c7, .slice B7 d'.W.length k7, .int .i64 d'.left, .bool d'.down] rfl P7.out.box rfl (by simp [Value.oneCell']) rd_info (by simp [Value.cells]) ?_; intro w8a b8 m8; have P8a := Lib.hid (P7.out.setD R7.out (HLN.out.1.trans HLEN.out) b8 m8); have S8 := Lib.hid (S7.out.box P7.out.box (by decide) m8); clear b8 m8)
                  | (refine wpList_store_mk rfl 39 (.tmp 14) (.tmp 143) rfl rfl hh rfl 39 (rsC A2 c2 s) (rsC A8 c8 s') rfl P8a.out.sbox rfl (by simp [rsC, Value.oneCell']) rs_info (by simp [Value.cells]) ?_; intro w9 b9 m9; have P8 := Lib.hid (P8a.out.setS S8.out b9 m9); clear b9 m9; have HAL := Lib.hid (fun (V : World) (hV : Mods Nil w9 V) => (P8.out.nil hV).alike (by omega)); have HHS := Lib.hid (fun (V : World) (hV : Mods Nil w9 V) => (P8.out.nil hV).has); obtain ⟨⟨z0, z1, z2, z3⟩, -⟩ := P8.out.box.four6; obtain ⟨⟨y0, y1, y2, y3, y4, y5, y6, y7⟩, -⟩ := Blk.eight (w := _) (g := hh) (t := 39) P8.out.sbox)
                  | (go_at_call 32; have hx := M11.out; clear hx; refine (HHS.out _ M11.out).mono ?_; rintro e w12 ⟨rfl, m12⟩; have M12 := Lib.hid (M11.out.trans m12); clear m12)
                  | (go_at_call 31; refine (HAL.out _ (Mods.refl Nil w9)).mono ?_; rintro e w11 ⟨rfl, m11⟩; have M11 := Lib.hid m11; clear z0 z1 z2 z3 y0 y1 y2 y3 y4 y5 y6 y7; obtain ⟨⟨z0, z1, z2, z3⟩, -⟩ := (P8.out.nil m11).box.four6; obtain ⟨⟨y0, y1, y2, y3, y4, y5, y6, y7⟩, -⟩ := Blk.eight (g := hh) (t := 39) (P8.out.nil m11).sbox; clear m11))
                exact ⟨.inl ⟨j + 1, d', s', sb, A7, c7, B7, k7, A8, c8, by omega, by omega, rfl, by go_num, P8.out.nil M12.out, by have := HLN.out.2; have := HW.out; omega⟩, by simp [intOf]; omega⟩
            · by_cases hr4 : r < 8
              · clear hzl
                have HWR := Lib.hid (fun (W : World) (h : Q7 w W db sb g hh N A1 c1 B1 k1 A2 c2 d s d s) => h.sync)
                have HRW := Lib.hid (fun (W : World) (h : RdAt W A1 c1 B1 k1 d) (h2 : RsAt W A2 c2 s) => Q7.rsync HOK.out HLO.out hW9 HLEN.out (by omega) W h h2)
                have HLN := Lib.hid (sync_len7 s d)
                obtain ⟨X, hX⟩ : ∃ X, s.sync d = X := ⟨_, rfl⟩
                rw [hX] at HRW HWR HLN
                obtain ⟨d', s', er⟩ := X
                dsimp only at HRW HWR HLN
                clear hX
                have P4 := Lib.hid (HP.out.nil ((Mods.refl Nil wr).alloc (.cells #[.int .i64 kd, .int .i64 z, .slice A9 q c9, .bool lg] 44)))
                have AB4 := Lib.hid (Blk.new wr 44 #[.int .i64 kd, .int .i64 z, .slice A9 q c9, .bool lg])
                have hW4 : ∃ W4, wr.alloc (.cells #[.int .i64 kd, .int .i64 z, .slice A9 q c9, .bool lg] 44) = W4 := ⟨_, rfl⟩
                have AB4' := AB4.out
                obtain ⟨⟨a0, a1, a2, a3⟩, -⟩ := AB4'.four6
                clear AB4' hW4
                obtain rfl | rfl | rfl : r = 5 ∨ r = 6 ∨ r = 7 := by omega
                all_goals as_aux_lemma =>
                  go_wp2_with (first
                    | (go_at_call 20; refine (HWR.out _ P4.out).mono ?_; rintro e w6 ⟨rfl, p6, m6⟩; have P6 := Lib.hid p6; obtain ⟨⟨z0, z1, z2, z3⟩, -⟩ := p6.box.four6; obtain ⟨⟨y0, y1, y2, y3, y4, y5, y6, y7⟩, -⟩ := Blk.eight (w := _) (g := hh) (t := 39) p6.sbox; clear p6 m6)
                    | (go_at_call 21; refine (HRW.out _ P6.out.ref P6.out.rs).mono ?_; rintro e w7 ⟨A7, c7, B7, k7, A8, c8, rfl, r7, s7, m7⟩; have P7 := Lib.hid (P6.out.nil m7); have R7 := Lib.hid r7; have S7 := Lib.hid s7; clear r7 m7 s7; clear z0 z1 z2 z3 y0 y1 y2 y3 y4 y5 y6 y7)
                    | (refine wpList_store_mk rfl 31 (.tmp 10) (.tmp 159) rfl rfl g rfl 31 #[.slice A1 N c1, .slice B1 d.W.length k1, .int .i64 d.left, .bool d.down] #[.slice A7 N c7, .slice B7 d'.W.length k7, .int .i64 d'.left, .bool d'.down] rfl P7.out.box rfl (by simp [Value.oneCell']) rd_info (by simp [Value.cells]) ?_; intro w8a b8 m8; have P8a := Lib.hid (P7.out.setD R7.out (HLN.out.1.trans HLEN.out) b8 m8); have S8 := Lib.hid (S7.out.box P7.out.box (by decide) m8); clear b8 m8)
                    | (refine wpList_store_mk rfl 39 (.tmp 14) (.tmp 160) rfl rfl hh rfl 39 (rsC A2 c2 s) (rsC A8 c8 s') rfl P8a.out.sbox rfl (by simp [rsC, Value.oneCell']) rs_info (by simp [Value.cells]) ?_; intro w8 b9 m9; have P8 := Lib.hid (P8a.out.setS S8.out b9 m9); clear b9 m9; have HAL := Lib.hid (fun (V : World) (hV : Mods Nil w8 V) => (P8.out.nil hV).alike (by omega)); have HHS := Lib.hid (fun (V : World) (hV : Mods Nil w8 V) => (P8.out.nil hV).has); obtain ⟨⟨z0, z1, z2, z3⟩, -⟩ := P8.out.box.four6; obtain ⟨⟨y0, y1, y2, y3, y4, y5, y6, y7⟩, -⟩ := Blk.eight (w := _) (g := hh) (t := 39) P8.out.sbox)
                    | (go_at_call 32; have hx := M11.out; clear hx; refine (HHS.out _ M11.out).mono ?_; rintro e w12 ⟨rfl, m12⟩; have M12 := Lib.hid (M11.out.trans m12); clear m12)
                    | (go_at_call 31; refine (HAL.out _ (Mods.refl Nil w8)).mono ?_; rintro e w11 ⟨rfl, m11⟩; have M11 := Lib.hid m11; clear z0 z1 z2 z3 y0 y1 y2 y3 y4 y5 y6 y7; obtain ⟨⟨z0, z1, z2, z3⟩, -⟩ := (P8.out.nil m11).box.four6; obtain ⟨⟨y0, y1, y2, y3, y4, y5, y6, y7⟩, -⟩ := Blk.eight (g := hh) (t := 39) (P8.out.nil m11).sbox; clear m11))
                  exact ⟨.inl ⟨j + 1, d', s', sb, A7, c7, B7, k7, A8, c8, by omega, by omega, rfl, by go_num, P8.out.nil M12.out, by have := HLN.out.2; have := HW.out; omega⟩, by simp [intOf]; omega⟩
              · by_cases hr8 : r = 8
                · clear hzl
                  have HWR := Lib.hid (fun (W : World) (h : Q7 w W db sb g hh N A1 c1 B1 k1 A2 c2 d s d s) => h.trim z)
                  have HRW : Hid (∀ W : World, Calls Try.prog 23 #[.agg (rsC A2 c2 s), .int .i64 z] W fun e w' => e = .returned (.agg (rsC A2 c2 (s.trim z))) ∧ Mods Nil W w') := Lib.hid (fun W => r7trim_any W s z)
                  have HLT : Hid (∀ W, RsAt W A2 c2 s → RsAt W A2 c2 (s.trim z)) := Lib.hid (fun W h => h.of rfl)
                  have hwz : d.W.length ≤ 11 * j := HW.out
                  obtain ⟨s', hs'⟩ : ∃ s', s.trim z = s' := ⟨_, rfl⟩
                  rw [hs'] at HRW HWR HLT
                  clear hs'
                  have P4 := Lib.hid (HP.out.nil ((Mods.refl Nil wr).alloc (.cells #[.int .i64 kd, .int .i64 z, .slice A9 q c9, .bool lg] 44)))
                  have AB4 := Lib.hid (Blk.new wr 44 #[.int .i64 kd, .int .i64 z, .slice A9 q c9, .bool lg])
                  have hW4 : ∃ W4, wr.alloc (.cells #[.int .i64 kd, .int .i64 z, .slice A9 q c9, .bool lg] 44) = W4 := ⟨_, rfl⟩
                  have AB4' := AB4.out
                  obtain ⟨⟨a0, a1, a2, a3⟩, -⟩ := AB4'.four6
                  clear AB4' hW4
                  obtain rfl : r = 8 := by omega
                  as_aux_lemma =>
                    go_wp2_with (first
                      | (go_at_call 22; refine (HWR.out _ P4.out).mono ?_; rintro e w6 ⟨rfl, p6, m6⟩; have P6 := Lib.hid p6; clear a0 a1 a2 a3; obtain ⟨⟨a0, a1, a2, a3⟩, -⟩ := (AB4.out.sm m6 (by decide)).four6; obtain ⟨⟨z0, z1, z2, z3⟩, -⟩ := p6.box.four6; obtain ⟨⟨y0, y1, y2, y3, y4, y5, y6, y7⟩, -⟩ := Blk.eight (w := _) (g := hh) (t := 39) p6.sbox; clear p6 m6)
                      | (go_at_call 23; refine (HRW.out _).mono ?_; rintro e w7 ⟨rfl, m7⟩; have P7 := Lib.hid (P6.out.nil m7); have S7 := Lib.hid (HLT.out _ P7.out.rs); clear m7; clear z0 z1 z2 z3 y0 y1 y2 y3 y4 y5 y6 y7)
                      | (refine wpList_store_mk rfl 39 (.tmp 14) (.tmp 171) rfl rfl hh rfl 39 (rsC A2 c2 s) (rsC A2 c2 s') rfl P7.out.sbox rfl (by simp [rsC, Value.oneCell']) rs_info (by simp [Value.cells]) ?_; intro w8 b9 m9; have P8 := Lib.hid (P7.out.setS S7.out b9 m9); clear b9 m9; have HAL := Lib.hid (fun (V : World) (hV : Mods Nil w8 V) => (P8.out.nil hV).alike (by omega)); have HHS := Lib.hid (fun (V : World) (hV : Mods Nil w8 V) => (P8.out.nil hV).has); obtain ⟨⟨z0, z1, z2, z3⟩, -⟩ := P8.out.box.four6; obtain ⟨⟨y0, y1, y2, y3, y4, y5, y6, y7⟩, -⟩ := Blk.eight (w := _) (g := hh) (t := 39) P8.out.sbox)
                      | (go_at_call 32; have hx := M11.out; clear hx; refine (HHS.out _ M11.out).mono ?_; rintro e w12 ⟨rfl, m12⟩; have M12 := Lib.hid (M11.out.trans m12); clear m12)
                      | (go_at_call 31; refine (HAL.out _ (Mods.refl Nil w8)).mono ?_; rintro e w11 ⟨rfl, m11⟩; have M11 := Lib.hid m11; clear z0 z1 z2 z3 y0 y1 y2 y3 y4 y5 y6 y7; obtain ⟨⟨z0, z1, z2, z3⟩, -⟩ := (P8.out.nil m11).box.four6; obtain ⟨⟨y0, y1, y2, y3, y4, y5, y6, y7⟩, -⟩ := Blk.eight (g := hh) (t := 39) (P8.out.nil m11).sbox; clear m11))
                    exact ⟨.inl ⟨j + 1, d, s', sb, A1, c1, B1, k1, A2, c2, by omega, by omega, rfl, by go_num, P8.out.nil M12.out, by omega⟩, by simp [intOf]; omega⟩
                · by_cases hr9 : r = 9
                  · clear hzl
                    have h15 : bits .and .i64 z 15 = z % 16 := i64_and15p z
                    have hz4 : z % 16 ≤ 9223372036854775807 := by omega
                    obtain ⟨z4, hz4e⟩ : ∃ z4, z % 16 = z4 := ⟨_, rfl⟩
                    rw [hz4e] at h15 hz4
                    have HWR := Lib.hid (fun (W : World) (h : Q7 w W db sb g hh N A1 c1 B1 k1 A2 c2 d s d s) => h.stop hz4)
                    have HRW := Lib.hid (fun (W : World) (h : RdAt W A1 c1 B1 k1 d) => Q7.rstop (n := N) z4 W h)
                    have HLN : Hid ((d.stop z4).L.length = d.L.length ∧ (d.stop z4).W.length ≤ d.W.length) := Lib.hid ⟨rfl, Nat.le_refl _⟩
                    obtain ⟨d', hd'⟩ : ∃ d', d.stop z4 = d' := ⟨_, rfl⟩
                    rw [hd'] at HRW HWR HLN
                    clear hd' hz4e hz4
                    have P4 := Lib.hid (HP.out.nil ((Mods.refl Nil wr).alloc (.cells #[.int .i64 kd, .int .i64 z, .slice A9 q c9, .bool lg] 44)))
                    have AB4 := Lib.hid (Blk.new wr 44 #[.int .i64 kd, .int .i64 z, .slice A9 q c9, .bool lg])
                    have hW4 : ∃ W4, wr.alloc (.cells #[.int .i64 kd, .int .i64 z, .slice A9 q c9, .bool lg] 44) = W4 := ⟨_, rfl⟩
                    have AB4' := AB4.out
                    obtain ⟨⟨a0, a1, a2, a3⟩, -⟩ := AB4'.four6
                    clear AB4' hW4
                    obtain rfl : r = 9 := by omega
                    as_aux_lemma =>
                      go_wp2_with (first
                        | (go_at_call 24; refine (HWR.out _ P4.out).mono ?_; rintro e w6 ⟨rfl, p6, m6⟩; have P6 := Lib.hid p6; clear a0 a1 a2 a3; obtain ⟨⟨a0, a1, a2, a3⟩, -⟩ := (AB4.out.dm m6 (by decide)).four6; obtain ⟨⟨z0, z1, z2, z3⟩, -⟩ := p6.box.four6; obtain ⟨⟨y0, y1, y2, y3, y4, y5, y6, y7⟩, -⟩ := Blk.eight (w := _) (g := hh) (t := 39) p6.sbox; clear p6 m6)
                        | (go_at_call 25; refine (HRW.out _ P6.out.ref).mono ?_; rintro e w7 ⟨A7, c7, B7, k7, rfl, r7, m7⟩; have P7 := Lib.hid (P6.out.nil m7); have R7 := Lib.hid r7; clear r7 m7; clear z0 z1 z2 z3 y0 y1 y2 y3 y4 y5 y6 y7)
                        | (refine wpList_store_mk rfl 31 (.tmp 10) (.tmp 187) rfl rfl g rfl 31 #[.slice A1 N c1, .slice B1 d.W.length k1, .int .i64 d.left, .bool d.down] #[.slice A7 N c7, .slice B7 d'.W.length k7, .int .i64 d'.left, .bool d'.down] rfl P7.out.box rfl (by simp [Value.oneCell']) rd_info (by simp [Value.cells]) ?_; intro w8 b8 m8; have P8 := Lib.hid (P7.out.setD R7.out (HLN.out.1.trans HLEN.out) b8 m8); clear b8 m8; have HAL := Lib.hid (fun (V : World) (hV : Mods Nil w8 V) => (P8.out.nil hV).alike (by omega)); have HHS := Lib.hid (fun (V : World) (hV : Mods Nil w8 V) => (P8.out.nil hV).has); obtain ⟨⟨z0, z1, z2, z3⟩, -⟩ := P8.out.box.four6; obtain ⟨⟨y0, y1, y2, y3, y4, y5, y6, y7⟩, -⟩ := Blk.eight (w := _) (g := hh) (t := 39) P8.out.sbox)
                        | (go_at_call 32; have hx := M11.out; clear hx; refine (HHS.out _ M11.out).mono ?_; rintro e w12 ⟨rfl, m12⟩; have M12 := Lib.hid (M11.out.trans m12); clear m12)
                        | (go_at_call 31; refine (HAL.out _ (Mods.refl Nil w8)).mono ?_; rintro e w11 ⟨rfl, m11⟩; have M11 := Lib.hid m11; clear z0 z1 z2 z3 y0 y1 y2 y3 y4 y5 y6 y7; obtain ⟨⟨z0, z1, z2, z3⟩, -⟩ := (P8.out.nil m11).box.four6; obtain ⟨⟨y0, y1, y2, y3, y4, y5, y6, y7⟩, -⟩ := Blk.eight (g := hh) (t := 39) (P8.out.nil m11).sbox; clear m11))
                      exact ⟨.inl ⟨j + 1, d', s, sb, A7, c7, B7, k7, A2, c2, by omega, by omega, rfl, by go_num, P8.out.nil M12.out, by have := HLN.out.2; have := HW.out; omega⟩, by simp [intOf]; omega⟩
                  · by_cases hr10 : r = 10
                    · by_cases hq46 : q < 46
                      · have hb3 : ∀ y : Int, bits .and .i64 y 3 = y % 4 := i64_and3p
                        have hb1 : ∀ y : Int, bits .and .i64 y 1 = y % 2 := i64_and1p
                        have hb7 : ∀ y : Int, bits .and .i64 y 7 = y % 8 := i64_and7p
                        have hi28 : 0 ≤ z / 16 % 8 ∧ z / 16 % 8 < 8 := by omega
                        obtain ⟨i2, hi2⟩ : ∃ i2, z / 16 % 8 = i2 := ⟨_, rfl⟩
                        rw [hi2] at hi28
                        obtain ⟨i, hi⟩ : ∃ i, (a : Int) + i2 = i := ⟨_, rfl⟩
                        have hwi : IntKind.i64.wrap i = i := by rw [IntKind.wrap_i64]; omega
                        have h44 : decide ((q : Int) < 46) = true := by simp; omega
                        have HFB : Hid (∃ F : List UInt8, F.length = 64 ∧ ∀ W : World, Calls Try.prog 26 #[.int .u64 (z % 4), .int .i64 ((q : Int) % 4), .int .i64 (z / 4 % 2), .int .i64 (1 + z / 8 % 2), .string (strOf xs)] W fun r w' => r = .returned (.string (strOf F)) ∧ Mods Nil W w') := Lib.hid (by
                          obtain ⟨b1, hb1⟩ : ∃ n : Nat, (n : Int) = z % 4 := ⟨(z % 4).toNat, by omega⟩
                          obtain ⟨b2, hb2⟩ : ∃ n : Nat, (n : Int) = (q : Int) % 4 := ⟨q % 4, by omega⟩
                          obtain ⟨b3, hb3⟩ : ∃ n : Nat, (n : Int) = z / 4 % 2 := ⟨(z / 4 % 2).toNat, by omega⟩
                          obtain ⟨b4, hb4⟩ : ∃ n : Nat, (n : Int) = 1 + z / 8 % 2 := ⟨(1 + z / 8 % 2).toNat, by omega⟩
                          refine ⟨blockP b1 b2 b3 b4 xs, blockP_length (by rw [HXS.out]; omega), fun W => ?_⟩
                          have h := rblock_any W (e := b1) (pl := b2) (k := b3) (m := b4) HXS.out (by omega) (by omega) (by omega)
                          rw [hb1, hb2, hb3, hb4] at h
                          exact h)
                        obtain ⟨F, hF64, hFB⟩ := HFB.out
                        have HBL := Lib.hid hFB
                        have HFL := Lib.hid hF64
                        clear hFB hF64 HFB
                        have HWR := Lib.hid (fun (W : World) (cF : Nat) (AF : Option Addr) (h : Q7 w W db sb g hh N A1 c1 B1 k1 A2 c2 d s d s) (hs : ∀ V, DM w.heap.size W V → Sl V AF cF (bts F)) => h.write (F := F) (q := 64) (by omega) i hs HFL.out)
                        have HRW : Hid (∀ (W : World), RdAt W A1 c1 B1 k1 d → Calls Try.prog 28 #[.agg #[.slice A1 N c1, .slice B1 d.W.length k1, .int .i64 d.left, .bool d.down], .int .i64 i, .string (strOf F)] W (RTo7 W N (d.write i F).1 (d.write i F).2)) := Lib.hid (fun (W : World) (h : RdAt W A1 c1 B1 k1 d) => by
                          have h5 := Q7.rwrite (F := F) (q := 64) HLO.out (by omega) HLEN.out i HFL.out W h
                          exact h5)
                        have HLN := Lib.hid (write_lenA d i F)
                        obtain ⟨X, hX⟩ : ∃ X, d.write i F = X := ⟨_, rfl⟩
                        rw [hX] at HRW HWR HLN
                        obtain ⟨d', er⟩ := X
                        dsimp only at HRW HWR HLN
                        clear hX hi28 hzl
                        obtain rfl : r = 10 := hr10
                        have P4 := Lib.hid (HP.out.nil ((Mods.refl Nil wr).alloc (.cells #[.int .i64 kd, .int .i64 z, .slice A9 q c9, .bool lg] 44)))
                        have AB4 := Lib.hid (Blk.new wr 44 #[.int .i64 kd, .int .i64 z, .slice A9 q c9, .bool lg])
                        have hW4 : ∃ W4, wr.alloc (.cells #[.int .i64 kd, .int .i64 z, .slice A9 q c9, .bool lg] 44) = W4 := ⟨_, rfl⟩
                        have AB4' := AB4.out
                        obtain ⟨⟨a0, a1, a2, a3⟩, -⟩ := AB4'.four6
                        clear AB4' hW4
                        have cv4 := conv7 HXS.out (HS0.out.mods P4.out.mods (fun _ _ h => h))
                        as_aux_lemma =>
                          go_wp2_with (first
                            | (go_at_call 26; refine (HBL.out _).mono ?_; rintro e w5 ⟨rfl, m5⟩; have P5 := Lib.hid (P4.out.nil m5); have AB5 := Lib.hid (AB4.out.mods m5 (fun h => h)); clear a0 a1 a2 a3 cv4; obtain ⟨⟨a0, a1, a2, a3⟩, -⟩ := AB5.out.four6; obtain ⟨cF, w5b, KF, sF, mF⟩ := conv_bytes7 w5 w.heap.size HFL.out (by omega); have SF := Lib.hid sF; have MF := Lib.hid mF; have b0 := (AB5.out.mods mF (fun h => h)); clear a0 a1 a2 a3; have a0 := AB5.out.four6.1.1; have a1 := AB5.out.four6.1.2.1; have a2 := AB5.out.four6.1.2.2.1; have a3 := AB5.out.four6.1.2.2.2; clear b0 sF mF m5)
                            | (go_at_call 27; refine (HWR.out _ _ _ (P5.out.nil MF.out) (fun V hV => SF.out _ V (Mods.refl Nil _) hV)).mono ?_; rintro e w6 ⟨rfl, p6, m6⟩; have P6 := Lib.hid p6; clear a0 a1 a2 a3; obtain ⟨⟨a0, a1, a2, a3⟩, -⟩ := ((AB5.out.mods MF.out (fun h => h)).dm m6 (by decide)).four6; obtain ⟨⟨z0, z1, z2, z3⟩, -⟩ := p6.box.four6; obtain ⟨⟨y0, y1, y2, y3, y4, y5, y6, y7⟩, -⟩ := Blk.eight (w := _) (g := hh) (t := 39) p6.sbox; clear p6 m6)
                            | (go_at_call 28; refine (HRW.out _ P6.out.ref).mono ?_; rintro e w7 ⟨A7, c7, B7, k7, rfl, r7, m7⟩; have P7 := Lib.hid (P6.out.nil m7); have R7 := Lib.hid r7; clear r7 m7 a0 a1 a2 a3 KF; clear z0 z1 z2 z3 y0 y1 y2 y3 y4 y5 y6 y7)
                            | (refine wpList_store_mk rfl 31 (.tmp 10) (.tmp 235) rfl rfl g rfl 31 #[.slice A1 N c1, .slice B1 d.W.length k1, .int .i64 d.left, .bool d.down] #[.slice A7 N c7, .slice B7 d'.W.length k7, .int .i64 d'.left, .bool d'.down] rfl P7.out.box rfl (by simp [Value.oneCell']) rd_info (by simp [Value.cells]) ?_; intro w8 b8 m8; have P8 := Lib.hid (P7.out.setD R7.out (HLN.out.1.trans HLEN.out) b8 m8); clear b8 m8; have HAL := Lib.hid (fun (V : World) (hV : Mods Nil w8 V) => (P8.out.nil hV).alike (by omega)); have HHS := Lib.hid (fun (V : World) (hV : Mods Nil w8 V) => (P8.out.nil hV).has); obtain ⟨⟨z0, z1, z2, z3⟩, -⟩ := P8.out.box.four6; obtain ⟨⟨y0, y1, y2, y3, y4, y5, y6, y7⟩, -⟩ := Blk.eight (w := _) (g := hh) (t := 39) P8.out.sbox)
                            | (go_at_call 32; have hx := M11.out; clear hx; refine (HHS.out _ M11.out).mono ?_; rintro e w12 ⟨rfl, m12⟩; have M12 := Lib.hid (M11.out.trans m12); clear m12)
                            | (go_at_call 31; refine (HAL.out _ (Mods.refl Nil w8)).mono ?_; rintro e w11 ⟨rfl, m11⟩; have M11 := Lib.hid m11; clear z0 z1 z2 z3 y0 y1 y2 y3 y4 y5 y6 y7; obtain ⟨⟨z0, z1, z2, z3⟩, -⟩ := (P8.out.nil m11).box.four6; obtain ⟨⟨y0, y1, y2, y3, y4, y5, y6, y7⟩, -⟩ := Blk.eight (g := hh) (t := 39) (P8.out.nil m11).sbox; clear m11))
                          exact ⟨.inl ⟨j + 1, d', s, sb, A7, c7, B7, k7, A2, c2, by omega, by omega, rfl, by go_num, P8.out.nil M12.out, by have := HLN.out.2; have := HW.out; omega⟩, by simp [intOf]; omega⟩
                      · have hb3 : ∀ y : Int, bits .and .i64 y 3 = y % 4 := i64_and3p
                        have hb1 : ∀ y : Int, bits .and .i64 y 1 = y % 2 := i64_and1p
                        have hb7 : ∀ y : Int, bits .and .i64 y 7 = y % 8 := i64_and7p
                        have hi28 : 0 ≤ z / 16 % 8 ∧ z / 16 % 8 < 8 := by omega
                        obtain ⟨i2, hi2⟩ : ∃ i2, z / 16 % 8 = i2 := ⟨_, rfl⟩
                        rw [hi2] at hi28
                        obtain ⟨i, hi⟩ : ∃ i, (a : Int) + i2 = i := ⟨_, rfl⟩
                        have hwi : IntKind.i64.wrap i = i := by rw [IntKind.wrap_i64]; omega
                        have h44 : decide ((q : Int) < 46) = false := by simp; omega
                        obtain ⟨E0, hE8⟩ : ∃ E : ByteArray, (⟨#[]⟩ : ByteArray) = E := ⟨_, rfl⟩
                        have hE9 : strOf [] = E0 := hE8
                        have HWR := Lib.hid (fun (W : World) (cF : Nat) (AF : Option Addr) (h : Q7 w W db sb g hh N A1 c1 B1 k1 A2 c2 d s d s) (hs : ∀ V, DM w.heap.size W V → Sl V AF cF (bts [])) => h.write (F := []) (q := 0) (by omega) i hs rfl)
                        have HRW : Hid (∀ (W : World), RdAt W A1 c1 B1 k1 d → Calls Try.prog 28 #[.agg #[.slice A1 N c1, .slice B1 d.W.length k1, .int .i64 d.left, .bool d.down], .int .i64 i, .string E0] W (RTo7 W N (d.write i []).1 (d.write i []).2)) := Lib.hid (fun (W : World) (h : RdAt W A1 c1 B1 k1 d) => by
                          have h5 := Q7.rwrite (F := []) (q := 0) HLO.out (by omega) HLEN.out i rfl W h
                          rw [hE9] at h5
                          exact h5)
                        have HLN := Lib.hid (write_lenA d i [])
                        obtain ⟨X, hX⟩ : ∃ X, d.write i [] = X := ⟨_, rfl⟩
                        rw [hX] at HRW HWR HLN
                        obtain ⟨d', er⟩ := X
                        dsimp only at HRW HWR HLN
                        clear hX hi28 hzl
                        obtain rfl : r = 10 := hr10
                        have P4 := Lib.hid (HP.out.nil ((Mods.refl Nil wr).alloc (.cells #[.int .i64 kd, .int .i64 z, .slice A9 q c9, .bool lg] 44)))
                        have AB4 := Lib.hid (Blk.new wr 44 #[.int .i64 kd, .int .i64 z, .slice A9 q c9, .bool lg])
                        have hW4 : ∃ W4, wr.alloc (.cells #[.int .i64 kd, .int .i64 z, .slice A9 q c9, .bool lg] 44) = W4 := ⟨_, rfl⟩
                        have AB4' := AB4.out
                        obtain ⟨⟨a0, a1, a2, a3⟩, -⟩ := AB4'.four6
                        clear AB4' hW4
                        obtain ⟨cF, w5b, KF, sF, mF⟩ := conv_bytes7 (wr.alloc (.cells #[.int .i64 kd, .int .i64 z, .slice A9 q c9, .bool lg] 44)) w.heap.size (zs := []) (q := 0) rfl (by omega)
                        rw [hE9] at KF
                        have hsz8 : (wr.alloc (.cells #[.int .i64 kd, .int .i64 z, .slice A9 q c9, .bool lg] 44)).heap.size = wr.heap.size + 1 := by simp
                        rw [hsz8] at KF sF
                        clear hsz8
                        have SF := Lib.hid sF
                        have MF := Lib.hid mF
                        have P5 := P4
                        have AB5 := AB4
                        clear sF mF hE9
                        as_aux_lemma =>
                          go_wp2_with (first
                            | (go_at_call 27; refine (HWR.out _ _ _ (P5.out.nil MF.out) (fun V hV => SF.out _ V (Mods.refl Nil _) hV)).mono ?_; rintro e w6 ⟨rfl, p6, m6⟩; have P6 := Lib.hid p6; clear a0 a1 a2 a3; obtain ⟨⟨a0, a1, a2, a3⟩, -⟩ := ((AB5.out.mods MF.out (fun h => h)).dm m6 (by decide)).four6; obtain ⟨⟨z0, z1, z2, z3⟩, -⟩ := p6.box.four6; obtain ⟨⟨y0, y1, y2, y3, y4, y5, y6, y7⟩, -⟩ := Blk.eight (w := _) (g := hh) (t := 39) p6.sbox; clear p6 m6)
                            | (go_at_call 28; refine (HRW.out _ P6.out.ref).mono ?_; rintro e w7 ⟨A7, c7, B7, k7, rfl, r7, m7⟩; have P7 := Lib.hid (P6.out.nil m7); have R7 := Lib.hid r7; clear r7 m7 a0 a1 a2 a3 KF; clear z0 z1 z2 z3 y0 y1 y2 y3 y4 y5 y6 y7)
                            | (refine wpList_store_mk rfl 31 (.tmp 10) (.tmp 235) rfl rfl g rfl 31 #[.slice A1 N c1, .slice B1 d.W.length k1, .int .i64 d.left, .bool d.down] #[.slice A7 N c7, .slice B7 d'.W.length k7, .int .i64 d'.left, .bool d'.down] rfl P7.out.box rfl (by simp [Value.oneCell']) rd_info (by simp [Value.cells]) ?_; intro w8 b8 m8; have P8 := Lib.hid (P7.out.setD R7.out (HLN.out.1.trans HLEN.out) b8 m8); clear b8 m8; have HAL := Lib.hid (fun (V : World) (hV : Mods Nil w8 V) => (P8.out.nil hV).alike (by omega)); have HHS := Lib.hid (fun (V : World) (hV : Mods Nil w8 V) => (P8.out.nil hV).has); obtain ⟨⟨z0, z1, z2, z3⟩, -⟩ := P8.out.box.four6; obtain ⟨⟨y0, y1, y2, y3, y4, y5, y6, y7⟩, -⟩ := Blk.eight (w := _) (g := hh) (t := 39) P8.out.sbox)
                            | (go_at_call 32; have hx := M11.out; clear hx; refine (HHS.out _ M11.out).mono ?_; rintro e w12 ⟨rfl, m12⟩; have M12 := Lib.hid (M11.out.trans m12); clear m12)
                            | (go_at_call 31; refine (HAL.out _ (Mods.refl Nil w8)).mono ?_; rintro e w11 ⟨rfl, m11⟩; have M11 := Lib.hid m11; clear z0 z1 z2 z3 y0 y1 y2 y3 y4 y5 y6 y7; obtain ⟨⟨z0, z1, z2, z3⟩, -⟩ := (P8.out.nil m11).box.four6; obtain ⟨⟨y0, y1, y2, y3, y4, y5, y6, y7⟩, -⟩ := Blk.eight (g := hh) (t := 39) (P8.out.nil m11).sbox; clear m11))
                          exact ⟨.inl ⟨j + 1, d', s, sb, A7, c7, B7, k7, A2, c2, by omega, by omega, rfl, by go_num, P8.out.nil M12.out, by have := HLN.out.2; have := HW.out; omega⟩, by simp [intOf]; omega⟩
                    · clear hzl
                      have HBS := Lib.hid (Bs.arg (base := w.heap.size) (w := w) (HS0.out) (Nat.le_refl _))
                      have HWR := Lib.hid (fun (W : World) (h : Q7 w W db sb g hh N A1 c1 B1 k1 A2 c2 d s d s) => h.crash (HBS.out.nil h.mods) HXS.out)
                      have HRW := Lib.hid (fun (W : World) (h : RdAt W A1 c1 B1 k1 d) => Q7.rcrash HOK.out (by omega) HLEN.out (by omega) HXS.out (by omega) W h)
                      have HLN : Hid ((d.crash xs).L.length = d.L.length ∧ (d.crash xs).W.length ≤ d.W.length) := Lib.hid ⟨crashL_length _ _ _, Nat.zero_le _⟩
                      have hdn : (d.crash xs).down = false := rfl
                      have hokc : (d.crash xs).Ok := HOK.out.crash xs
                      obtain ⟨d', hd'⟩ : ∃ d', d.crash xs = d' := ⟨_, rfl⟩
                      rw [hd'] at HRW HWR HLN hdn hokc
                      have hln : d'.L.length = N := HLN.out.1.trans HLEN.out
                      have HLN2 := Lib.hid hln
                      obtain ⟨l', hl'⟩ : ∃ l', segL d' a m = l' := ⟨_, rfl⟩
                      have HROP : Hid (∀ (W : World) (A7 : Option Addr) (c7 : Nat) (B7 : Option Addr) (k7 : Nat), RdAt W A7 c7 B7 k7 d' → Calls Try.prog 16 #[.agg #[.slice A7 N c7, .slice B7 d'.W.length k7, .int .i64 d'.left, .bool d'.down], .int .i64 (a : Int), .int .i64 (m : Int)] W (ROpen7 W l' a)) := Lib.hid (fun W A7 c7 B7 k7 hr => by
                        have h := r7open_any W hr hokc (a := a) (n := m) (by omega) hdn hln rfl rfl hm1 (by omega)
                        rw [hl'] at h
                        rw [hdn]
                        exact h)
                      have hr0n : (r == 0) = false := by rw [beq_eq_false_iff_ne]; omega
                      have hr1n : (r == 1) = false := by rw [beq_eq_false_iff_ne]; omega
                      have hr2n : (r == 2) = false := by rw [beq_eq_false_iff_ne]; omega
                      have hr3n : (r == 3) = false := by rw [beq_eq_false_iff_ne]; omega
                      have hr4n : (r == 4) = false := by rw [beq_eq_false_iff_ne]; omega
                      have hr5n : (r == 5) = false := by rw [beq_eq_false_iff_ne]; omega
                      have hr6n : (r == 6) = false := by rw [beq_eq_false_iff_ne]; omega
                      have hr7n : (r == 7) = false := by rw [beq_eq_false_iff_ne]; omega
                      have hr8n : (r == 8) = false := by rw [beq_eq_false_iff_ne]; omega
                      have hr9n : (r == 9) = false := by rw [beq_eq_false_iff_ne]; omega
                      have hr10n : (r == 10) = false := by rw [beq_eq_false_iff_ne]; omega
                      have P4 := Lib.hid (HP.out.nil ((Mods.refl Nil wr).alloc (.cells #[.int .i64 kd, .int .i64 z, .slice A9 q c9, .bool lg] 44)))
                      have AB4 := Lib.hid (Blk.new wr 44 #[.int .i64 kd, .int .i64 z, .slice A9 q c9, .bool lg])
                      have hW4 : ∃ W4, wr.alloc (.cells #[.int .i64 kd, .int .i64 z, .slice A9 q c9, .bool lg] 44) = W4 := ⟨_, rfl⟩
                      have AB4' := AB4.out
                      obtain ⟨⟨a0, a1, a2, a3⟩, -⟩ := AB4'.four6
                      clear AB4' hW4
                      by_cases hst : stampP l' < 4294967295
                      · have HOPN := Lib.hid (fun (W : World) (A7 : Option Addr) (c7 : Nat) (B7 : Option Addr) (k7 : Nat) (A8 : Option Addr) (c8 : Nat) (h : Q7 w W db sb g hh N A7 c7 B7 k7 A8 c8 d' s d' s) => h.open_ (a := a) (m := m) (by omega) hm1 (by omega) hdn (by rw [hl']; exact hst))
                        have HRO2 := Lib.hid (fun (W : World) (A7 : Option Addr) (c7 : Nat) (B7 : Option Addr) (k7 : Nat) (hr : RdAt W A7 c7 B7 k7 d') => (HROP.out W A7 c7 B7 k7 hr).mono fun e w' h => (⟨h.1 hst, h.2.2⟩ : (∃ A2 c2, e = .returned (.tuple #[.agg (rsC A2 c2 (segOpen l' a)), .int .i64 0]) ∧ RsAt w' A2 c2 (segOpen l' a)) ∧ Mods Nil W w'))
                        rw [hl'] at HOPN
                        obtain ⟨s', hs'⟩ : ∃ s', segOpen l' a = s' := ⟨_, rfl⟩
                        rw [hs'] at HOPN HRO2
                        clear hd' hdn hokc hln hl' hs' hst HROP
                        as_aux_lemma =>
                          go_wp2_with (first
                            | (go_at_call 29; refine (HWR.out _ P4.out).mono ?_; rintro e w6 ⟨rfl, p6, m6⟩; have P6 := Lib.hid p6; clear a0 a1 a2 a3; obtain ⟨⟨a0, a1, a2, a3⟩, -⟩ := (AB4.out.dm m6 (by decide)).four6; have cv6 := conv7 HXS.out (HBS.out.nil p6.mods).1; obtain ⟨⟨z0, z1, z2, z3⟩, -⟩ := p6.box.four6; obtain ⟨⟨y0, y1, y2, y3, y4, y5, y6, y7⟩, -⟩ := Blk.eight (w := _) (g := hh) (t := 39) p6.sbox; clear p6 m6)
                            | (go_at_call 30; refine (HRW.out _ P6.out.ref).mono ?_; rintro e w7 ⟨A7, c7, B7, k7, rfl, r7, m7⟩; have P7 := Lib.hid (P6.out.nil m7); have R7 := Lib.hid r7; clear r7 m7 a0 a1 a2 a3 cv6; clear z0 z1 z2 z3 y0 y1 y2 y3 y4 y5 y6 y7)
                            | (refine wpList_store_mk rfl 31 (.tmp 10) (.tmp 100) rfl rfl g rfl 31 #[.slice A1 N c1, .slice B1 d.W.length k1, .int .i64 d.left, .bool d.down] #[.slice A7 N c7, .slice B7 d'.W.length k7, .int .i64 d'.left, .bool d'.down] rfl P7.out.box rfl (by simp [Value.oneCell']) rd_info (by simp [Value.cells]) ?_; intro w8a b8 m8; have P8a := Lib.hid (P7.out.setD R7.out HLN2.out b8 m8); clear b8 m8)
                            | (go_at_call 15; refine (HOPN.out _ _ _ _ _ _ _ P8a.out).mono ?_; rintro e w8b ⟨sb9, rfl, p9, m9⟩; have P9 := Lib.hid p9; obtain ⟨⟨z0, z1, z2, z3⟩, -⟩ := p9.box.four6; obtain ⟨⟨y0, y1, y2, y3, y4, y5, y6, y7⟩, -⟩ := Blk.eight (w := _) (g := hh) (t := 39) p9.sbox; clear p9 m9)
                            | (go_at_call 16; refine (HRO2.out _ _ _ _ _ P9.out.ref).mono ?_; rintro e w8c ⟨⟨A8, c8, rfl, rs9⟩, m9⟩; have P10 := Lib.hid (P9.out.nil m9); have S10 := Lib.hid rs9; clear rs9 m9; clear z0 z1 z2 z3 y0 y1 y2 y3 y4 y5 y6 y7)
                            | (refine wpList_store_mk rfl 39 (.tmp 14) (.tmp 115) rfl rfl hh rfl 39 (rsC A2 c2 s) (rsC A8 c8 s') rfl P10.out.sbox rfl (by simp [rsC, Value.oneCell']) rs_info (by simp [Value.cells]) ?_; intro w8 b9 m9; have P8 := Lib.hid (P10.out.setS S10.out b9 m9); clear b9 m9; have HAL := Lib.hid (fun (V : World) (hV : Mods Nil w8 V) => (P8.out.nil hV).alike (by omega)); have HHS := Lib.hid (fun (V : World) (hV : Mods Nil w8 V) => (P8.out.nil hV).has); obtain ⟨⟨z0, z1, z2, z3⟩, -⟩ := P8.out.box.four6; obtain ⟨⟨y0, y1, y2, y3, y4, y5, y6, y7⟩, -⟩ := Blk.eight (w := _) (g := hh) (t := 39) P8.out.sbox)
                            | (go_at_call 32; have hx := M11.out; clear hx; refine (HHS.out _ M11.out).mono ?_; rintro e w12 ⟨rfl, m12⟩; have M12 := Lib.hid (M11.out.trans m12); clear m12)
                            | (go_at_call 31; refine (HAL.out _ (Mods.refl Nil w8)).mono ?_; rintro e w11 ⟨rfl, m11⟩; have M11 := Lib.hid m11; clear z0 z1 z2 z3 y0 y1 y2 y3 y4 y5 y6 y7; obtain ⟨⟨z0, z1, z2, z3⟩, -⟩ := (P8.out.nil m11).box.four6; obtain ⟨⟨y0, y1, y2, y3, y4, y5, y6, y7⟩, -⟩ := Blk.eight (g := hh) (t := 39) (P8.out.nil m11).sbox; clear m11))
                          exact ⟨.inl ⟨j + 1, d', s', sb9, A7, c7, B7, k7, A8, c8, by omega, by omega, rfl, by go_num, P8.out.nil M12.out, by have := HLN.out.2; have := HW.out; omega⟩, by simp [intOf]; omega⟩
                      · have hst2 : stampP l' = 4294967295 := by have := stampP_max l'; omega
                        have HOPN := Lib.hid (fun (W : World) (h : DiskAt W w.heap.size db d') => sopen_worn h (a := a) (n := m) (by omega) hm1 (by omega) hdn (by rw [hl']; exact hst2))
                        have HRO2 := Lib.hid (fun (W : World) (A7 : Option Addr) (c7 : Nat) (B7 : Option Addr) (k7 : Nat) (hr : RdAt W A7 c7 B7 k7 d') => (HROP.out W A7 c7 B7 k7 hr).mono fun e w' h => (⟨h.2.1 hst2, h.2.2⟩ : e = .returned (.tuple #[.agg #[.int .i64 0, .int .i64 0, .int .u64 0, .slice none 0 0, .int .i64 0, .int .i64 0, .int .i64 0, .int .i64 0], .int .i64 37]) ∧ Mods Nil W w'))
                        clear hd' hdn hokc hln hl' hst hst2 HROP
                        as_aux_lemma =>
                          go_wp2_with (first
                            | (go_at_call 29; refine (HWR.out _ P4.out).mono ?_; rintro e w6 ⟨rfl, p6, m6⟩; have P6 := Lib.hid p6; clear a0 a1 a2 a3; obtain ⟨⟨a0, a1, a2, a3⟩, -⟩ := (AB4.out.dm m6 (by decide)).four6; have cv6 := conv7 HXS.out (HBS.out.nil p6.mods).1; obtain ⟨⟨z0, z1, z2, z3⟩, -⟩ := p6.box.four6; obtain ⟨⟨y0, y1, y2, y3, y4, y5, y6, y7⟩, -⟩ := Blk.eight (w := _) (g := hh) (t := 39) p6.sbox; clear p6 m6)
                            | (go_at_call 30; refine (HRW.out _ P6.out.ref).mono ?_; rintro e w7 ⟨A7, c7, B7, k7, rfl, r7, m7⟩; have P7 := Lib.hid (P6.out.nil m7); have R7 := Lib.hid r7; clear r7 m7 a0 a1 a2 a3 cv6; clear z0 z1 z2 z3 y0 y1 y2 y3 y4 y5 y6 y7)
                            | (refine wpList_store_mk rfl 31 (.tmp 10) (.tmp 100) rfl rfl g rfl 31 #[.slice A1 N c1, .slice B1 d.W.length k1, .int .i64 d.left, .bool d.down] #[.slice A7 N c7, .slice B7 d'.W.length k7, .int .i64 d'.left, .bool d'.down] rfl P7.out.box rfl (by simp [Value.oneCell']) rd_info (by simp [Value.cells]) ?_; intro w8a b8 m8; have P8a := Lib.hid (P7.out.setD R7.out HLN2.out b8 m8); clear b8 m8)
                            | (go_at_call 15; refine (HOPN.out _ P8a.out.all.1).mono ?_; rintro e w8b ⟨rfl, m9⟩; have P9 := Lib.hid (P8a.out.nil m9); obtain ⟨⟨z0, z1, z2, z3⟩, -⟩ := P9.out.box.four6; obtain ⟨⟨y0, y1, y2, y3, y4, y5, y6, y7⟩, -⟩ := Blk.eight (w := _) (g := hh) (t := 39) P9.out.sbox; clear m9)
                            | (go_at_call 16; refine (HRO2.out _ _ _ _ _ P9.out.ref).mono ?_; rintro e w8c ⟨rfl, m9⟩; have P10 := Lib.hid (P9.out.nil m9); clear m9; clear z0 z1 z2 z3 y0 y1 y2 y3 y4 y5 y6 y7)
                            | (refine wpList_store_mk rfl 39 (.tmp 14) (.tmp 115) rfl rfl hh rfl 39 (rsC A2 c2 s) #[.int .i64 0, .int .i64 0, .int .u64 0, .slice none 0 0, .int .i64 0, .int .i64 0, .int .i64 0, .int .i64 0] rfl P10.out.sbox rfl (by simp [rsC, Value.oneCell']) rs_info (by simp [Value.cells]) ?_; intro w8 b9 m9; have P8 := Lib.hid (P10.out.setS (r' := (⟨0, 0, 0, [], 0, 0, 0, 0⟩ : PSeg)) (A3 := none) (c3 := 0) ⟨Sl.none_ _, Ty6.none_ _ _⟩ b9 m9); clear b9 m9; have HAL := Lib.hid (fun (V : World) (hV : Mods Nil w8 V) => (P8.out.nil hV).alike (by omega)); obtain ⟨⟨z0, z1, z2, z3⟩, -⟩ := P8.out.box.four6)
                            | (go_at_call 31; refine (HAL.out _ (Mods.refl Nil w8)).mono ?_; rintro e w11 ⟨rfl, m11⟩; have M11 := Lib.hid m11; clear m11 z0 z1 z2 z3))
                          exact ⟨.inr ⟨j + 1, by omega, by omega, rfl, by go_num, P8.out.mods.trans M11.out⟩, by simp [intOf]; omega⟩
        · have hl4I : (30 : Int) ≤ (j : Int) := by omega
          go_wp2_with fail
          go_ret
          exact ⟨rfl, HP.out.mods⟩
      · have hltI : (n : Int) ≤ (j : Int) := by omega
        go_wp2_with fail
        go_ret
        exact ⟨rfl, HP.out.mods⟩
    · have HMO := Lib.hid hmo
      clear hmo
      by_cases hlt : j < n
      · have hltI : (j : Int) < (n : Int) := by omega
        by_cases hl4 : j < 30
        · have hl4I : (j : Int) < 30 := by omega
          go_wp2_with fail
          go_ret
          exact ⟨rfl, HMO.out⟩
        · have hl4I : (30 : Int) ≤ (j : Int) := by omega
          go_wp2_with fail
          go_ret
          exact ⟨rfl, HMO.out⟩
      · have hltI : (n : Int) ≤ (j : Int) := by omega
        go_wp2_with fail
        go_ret
        exact ⟨rfl, HMO.out⟩
set_option maxHeartbeats 6400000 in
theorem segmentPlays_walk (w : World) {a0 : Int} (wf : (Lit.int .i64 a0).wf = true) {a1 : Int} (wf1 : (Lit.int .i64 a1).wf = true) {A : Option Addr} {c n : Nat} {l : List (List Fv)} (h : Acts w A n c [.int .i64, .int .i64, .bytes, .bool] l) :
    Calls Try.prog 3 #[.int .i64 a0, .int .i64 a1, .slice A n c] w fun e w' => e = .returned (.bool true) ∧ Mods Nil w w' := by
  by_cases h1 : a0 < 1
  · have h1I : decide (a0 < 1) = true := by simpa using h1
    clear h wf wf1 h1
    go_enter Try.func3, Try.ntmps3
    go_wp2_with (go_at_call 12; refine (awake7_any _).mono ?_; rintro e w1 ⟨rfl, m1⟩; have M1 := Lib.hid m1; clear m1)
    go_ret
    exact ⟨rfl, M1.out⟩
  have h1I : decide (a0 < 1) = false := by simpa using h1
  by_cases h8 : 24 < a0
  · have h8I : decide ((24 : Int) < a0) = true := by simpa using h8
    clear h wf wf1 h1 h8
    go_enter Try.func3, Try.ntmps3
    go_wp2_with (go_at_call 12; refine (awake7_any _).mono ?_; rintro e w1 ⟨rfl, m1⟩; have M1 := Lib.hid m1; clear m1)
    go_ret
    exact ⟨rfl, M1.out⟩
  have h8I : decide ((24 : Int) < a0) = false := by simpa using h8
  have hlim := i64_lim wf1
  obtain ⟨N, rfl⟩ : ∃ N : Nat, a0 = (N : Int) := ⟨a0.toNat, by omega⟩
  have hN1 : 1 ≤ N := by omega
  have hN8 : N ≤ 24 := by omega
  by_cases hin : 3 ≤ N ∧ 0 ≤ a1 ∧ a1 ≤ 2
  · obtain ⟨a, rfl⟩ : ∃ a : Nat, a1 = (a : Int) := ⟨a1.toNat, by omega⟩
    exact segmentPlays_main w hN8 hin.1 (by omega) h
  · have hbad : a1 < 0 ∨ (N : Int) - 2 < 1 ∨ (N : Int) - a1 < (N : Int) - 2 := by omega
    have hbad2 : a1 < 0 ∨ (N : Int) - 2 < 1 ∨ (N : Int) < a1 ∨ (N : Int) - a1 < (N : Int) - 2 := by omega
    have hw2 : IntKind.i64.wrap ((N : Int) - 2) = (N : Int) - 2 := by rw [IntKind.wrap_i64]; omega
    have HR := Lib.hid (fun W : World => rnew_any W (n := N) hN1 (by omega))
    have HOP : Hid (∀ (W : World) db, DiskAt W w.heap.size db (live (List.replicate N zeros64) []) → Calls Try.prog 15 #[.pointer (some ⟨db, 0, none⟩), .int .i64 a1, .int .i64 ((N : Int) - 2)] W fun e w' => e = .returned (.tuple #[.pointer none, .int .i64 1]) ∧ Mods Nil W w') := Lib.hid (fun W db hd => (sopen_bad hd (by simp [live]; omega) hlim.2 (by simpa [live] using hbad)).mono fun e w' h => ⟨h.1, h.2 ▸ Mods.refl _ _⟩)
    have HRO := Lib.hid (fun (W : World) (A3 : Option Addr) (c3 : Nat) => r7open_bad W (A := A3) (c := c3) (B := none) (n2 := 0) (k := 0) (left := -1) (down := false) (n1 := N) (a := a1) (n := (N : Int) - 2) (by omega) hlim.2 hbad2)
    obtain ⟨N2, hN2⟩ : ∃ N2, (N : Int) - 2 = N2 := ⟨_, rfl⟩
    rw [hN2] at HOP HRO hw2
    clear h wf wf1 h1 h8 hin hbad hbad2 hlim
    go_enter Try.func3, Try.ntmps3
    go_wp2_with (first
      | (go_at_call 12; refine (awake7_any _).mono ?_; rintro e w1 ⟨rfl, m1⟩; have M1 := Lib.hid m1; clear m1)
      | (go_at_call 13; refine (lnew w1 (base := w.heap.size) (n := N) M1.out.size rfl hN1 (by omega)).mono ?_; rintro e w2 ⟨db, rfl, d2, m2⟩; have D2 := Lib.hid d2; have M2 := Lib.hid (M1.out.trans m2); clear d2 m2)
      | (go_at_call 14; refine (HR.out _).mono ?_; rintro e w3 ⟨A3, c3, rfl, s3, m3, t3⟩; have D3 := Lib.hid (D2.out.nil m3); have M3 := Lib.hid (M2.out.trans m3); clear s3 t3 m3)
      | (go_at_call 15; refine (HOP.out _ _ (D3.out.nil ((Mods.refl Nil w3).alloc (.cells #[.slice A3 N c3, .slice none 0 0, .int .i64 (-1), .bool false] 31)))).mono ?_; rintro e w4 ⟨rfl, m4⟩; have B4 := Lib.hid ((Blk.new w3 31 #[.slice A3 N c3, .slice none 0 0, .int .i64 (-1), .bool false]).mods m4 (fun h => h)); have M4 := Lib.hid (M3.out.trans (((Mods.refl Nil w3).alloc _).trans m4)); obtain ⟨⟨z0, z1, z2, z3⟩, -⟩ := B4.out.four6; clear m4)
      | (go_at_call 16; refine (HRO.out _ _ _).mono ?_; rintro e w5 ⟨rfl, m5⟩; have M5 := Lib.hid (M4.out.trans m5); clear m5 z0 z1 z2 z3))
    go_loopw [12, 16] (fun x y wr => x = .pointer none ∧ y = .int .i64 0 ∧ Mods Nil w wr) (fun _ _ _ => 0)
    case atStart => exact ⟨rfl, rfl, by first | exact M5.out.alloc _ | exact (M5.out.alloc _).drew⟩
    case round =>
      obtain ⟨rfl, rfl, hmo⟩ := hrel
      have HMO := Lib.hid hmo
      clear hmo
      by_cases hz : n = 0
      · subst hz
        go_wp2_with fail
        go_ret
        exact ⟨rfl, HMO.out⟩
      · have hzI : (0 : Int) < (n : Int) := by omega
        go_wp2_with fail
        go_ret
        exact ⟨rfl, HMO.out⟩
end Go.Proofs.Ytdllgmhipenidaa
