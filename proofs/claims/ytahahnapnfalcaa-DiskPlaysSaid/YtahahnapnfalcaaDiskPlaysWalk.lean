/- DiskPlays' walk. -/
import Derived.Test.YtahahnapnfalcaaPlays6
namespace Go.Proofs.Ytahahnapnfalcaa
set_option maxRecDepth 1000000
open Go.RowKit
set_option linter.unusedVariables false

set_option maxHeartbeats 12800000 in
theorem diskPlays_main (w : World) {N : Nat} (h1 : 1 ≤ N) (h40 : N ≤ 40) {A : Option Addr} {c n : Nat} {l : List (List Fv)} (h : Acts w A n c [.int .i64, .int .i64, .int .i64, .bytes] l) :
    Calls Try.prog 3 #[.int .i64 (N : Int), .slice A n c] w fun e w' => e = .returned (.bool true) ∧ Mods Nil w w' := by
  have h40I : decide ((40 : Int) < (N : Int)) = false := by simp; omega
  have HA := Lib.hid h
  have HR := Lib.hid (fun W : World => rnew_any W (n := N) h1 (by omega))
  clear h
  go_enter Try.func3, Try.ntmps3
  go_wp2_with (first
    | (go_at_call 9; refine (awake6_any _).mono ?_; rintro e w1 ⟨rfl, m1⟩; have M1 := Lib.hid m1; clear m1)
    | (go_at_call 10; refine (lnew w1 (base := w.heap.size) (n := N) M1.out.size rfl h1 (by omega)).mono ?_; rintro e w2 ⟨db, rfl, d2, m2⟩; have D2 := Lib.hid d2; have M2 := Lib.hid (M1.out.trans m2); clear d2 m2)
    | (go_at_call 11; refine (HR.out _).mono ?_; rintro e w3 ⟨A3, c3, rfl, s3, m3, t3⟩; have D3 := Lib.hid (D2.out.nil m3); have M3 := Lib.hid (M2.out.trans m3); have S3 := Lib.hid s3; have T3 := Lib.hid t3; clear s3 t3 m3))
  have P0 : Hid (Pl w (w3.alloc (.cells #[.slice A3 N c3, .slice none 0 0, .int .i64 (-1), .bool false] 31)) db w3.heap.size N A3 c3 none 0 (live (List.replicate N zeros64) [])) :=
    Lib.hid ⟨D3.out.nil ((Mods.refl Nil w3).alloc _), Blk.new _ _ _, M3.out.size, ⟨S3.out.mods ((Mods.refl Nil w3).alloc _) (fun _ _ h => h), Sl2.none_ _, T3.out.mods ((Mods.refl Nil w3).alloc _) (fun _ _ h => h), Ty6.none_ _ _⟩, by simp [live], M3.out.alloc _⟩
  obtain ⟨g, hg⟩ : ∃ g, w3.heap.size = g := ⟨_, rfl⟩
  rw [hg] at P0 ⊢
  clear hg D2 D3 M1 M2 M3 S3 T3 HR
  go_loopw [10] (fun x wr => ∃ (j : Nat) (d : PD) (A1 : Option Addr) (c1 : Nat) (B1 : Option Addr) (k1 : Nat), j ≤ n ∧ j ≤ 40 ∧ x = .int .i64 (j : Int) ∧ Pl w wr db g N A1 c1 B1 k1 d ∧ d.W.length ≤ j) (fun x _ => n - (intOf x).toNat)
  case atStart => exact ⟨0, _, _, _, _, _, Nat.zero_le _, by omega, rfl, P0.out, Nat.le_refl _⟩
  case round =>
    obtain ⟨j, d, A1, c1, B1, k1, hj, hj40, rfl, hpl, hw⟩ := hrel
    clear P0
    have HP := Lib.hid hpl
    have HW := Lib.hid hw
    clear hpl hw
    by_cases hlt : j < n
    · have hltI : (j : Int) < (n : Int) := by omega
      by_cases hl4 : j < 40
      · have hl4I : (j : Int) < 40 := by omega
        obtain ⟨bA, off, kd, i, z, A2, c2, xs, q, rfl, y0, y1, y2, y3, hxs, hs0, hz⟩ := HA.out.act_at hlt
        have hs2 := hs0.mods HP.out.mods (fun _ _ h => h)
        have HS0 := Lib.hid hs0
        have hbl := HP.out.mods.block bA (World.block_lt_of_cell? w _ y0) (fun h => h)
        rw [← World.cell?_of_block hbl] at y0 y1 y2 y3
        clear hs0 hbl
        by_cases h80 : 80 < q
        · have h80I : (80 : Int) < (q : Int) := by omega
          clear hxs hs2
          go_wp2_with fail
          go_ret
          exact ⟨rfl, HP.out.mods.alloc _⟩
        · have h80I : (q : Int) ≤ 80 := by omega
          have hand : bits .and .i64 kd 15 = kd % 16 := i64_and15 kd
          obtain ⟨r, hr⟩ : ∃ r, kd % 16 = r := ⟨_, rfl⟩
          rw [hr] at hand
          have hr0 : 0 ≤ r ∧ r < 16 := by omega
          have HP0 := HP.out
          have HD0 : Hid (DiskAt wr w.heap.size db d) := HP.out.disk
          have HLO := Lib.hid HD0.out.lo
          have HOK := Lib.hid HD0.out.ok
          have hW1 : d.W.length ≤ 1000 := by have := HW.out; omega
          have HS2 := Lib.hid hs2
          have HXS := Lib.hid hxs
          have HPM := HP.out.len
          have HLEN := Lib.hid HPM
          clear hr hs2 hxs HP0 HD0 HPM
          by_cases hrw : r < 7
          · obtain ⟨o, ho⟩ : ∃ o, (z == 1) = o := ⟨_, rfl⟩
            have ho2 : decide (z = 1) = o := by rw [← ho]; rfl
            have HFL := Lib.hid (fillF_length xs o)
            have HFI := Lib.hid (fun (W : World) (h : Mods Nil wr W) => filled6 (W := W) w.heap.size (HS2.out.mods h (fun _ _ h => h)) HXS.out o)
            obtain ⟨F, hF⟩ : ∃ F, fillF xs o = F := ⟨_, rfl⟩
            rw [hF] at HFL HFI
            obtain ⟨q2, hq2⟩ : ∃ q2, fillQ o = q2 := ⟨_, rfl⟩
            rw [hq2] at HFL HFI
            have HWR := Lib.hid (fun (W : World) (g2 : Nat) (h : Pl w W db g N A1 c1 B1 k1 d) (hb : Bs w.heap.size W (some ⟨g2, 0, none⟩) 64 F) => h.write hW1 i hb HFL.out)
            have HRW := Lib.hid (fun (W : World) (h : RdAt W A1 c1 B1 k1 d) => Pl.rwrite HLO.out hW1 HLEN.out i HFL.out W h)
            have HLN := Lib.hid (d.write_len i F)
            obtain ⟨d', hd'⟩ : ∃ d', (d.write i F).1 = d' := ⟨_, rfl⟩
            obtain ⟨er, her⟩ : ∃ er, (d.write i F).2 = er := ⟨_, rfl⟩
            rw [hd'] at HRW HWR HLN
            rw [her] at HRW HWR
            have P4 := Lib.hid (HP.out.nil ((Mods.refl Nil wr).alloc (.cells #[.int .i64 kd, .int .i64 i, .int .i64 z, .slice A2 q c2] 36)))
            have AB4 := Lib.hid (Blk.new wr 36 #[.int .i64 kd, .int .i64 i, .int .i64 z, .slice A2 q c2])
            clear hF hq2 hd' her HS2 HXS
            obtain rfl | rfl | rfl | rfl | rfl | rfl | rfl : r = 0 ∨ r = 1 ∨ r = 2 ∨ r = 3 ∨ r = 4 ∨ r = 5 ∨ r = 6 := by omega
            all_goals
              go_wp2_with (first
                | (go_at_call 12; refine (HFI.out _ ((Mods.refl Nil wr).alloc _)).mono ?_; rintro e w5 ⟨g5, rfl, b5, m5⟩; have P5 := Lib.hid (P4.out.nil m5); have BF5 := Lib.hid b5; have ab5 := AB4.out.mods m5 (fun h => h); have AB5 := Lib.hid ab5; obtain ⟨⟨a0, a1, a2, a3⟩, -⟩ := ab5.four6; clear b5 m5 ab5)
                | (go_at_call 13; refine (HWR.out _ _ P5.out BF5.out).mono ?_; rintro e w6 ⟨rfl, p6, m6⟩; have P6 := Lib.hid p6; clear a0 a1 a2 a3; obtain ⟨⟨a0, a1, a2, a3⟩, -⟩ := (AB5.out.dm m6 (by decide)).four6; have cv6 := conv6 HFL.out (BF5.out.dm m6).1; obtain ⟨⟨z0, z1, z2, z3⟩, -⟩ := p6.box.four6; clear p6 m6)
                | (go_at_call 14; refine (HRW.out _ P6.out.ref).mono ?_; rintro e w7 ⟨A7, c7, B7, k7, rfl, r7, m7⟩; have P7 := Lib.hid (P6.out.nil m7); have R7 := Lib.hid r7; clear r7 m7 z0 z1 z2 z3 a0 a1 a2 a3 cv6)
                | (refine wpList_store_mk rfl 31 (.tmp 8) (.tmp 98) rfl rfl g rfl 31 #[.slice A1 N c1, .slice B1 d.W.length k1, .int .i64 d.left, .bool d.down] #[.slice A7 N c7, .slice B7 d'.W.length k7, .int .i64 d'.left, .bool d'.down] rfl P7.out.box rfl (by simp [Value.oneCell']) rd_info (by simp [Value.cells]) ?_; intro w8 b8 m8; have P8 := Lib.hid (P7.out.next R7.out (HLN.out.1.trans HLEN.out) b8 m8); obtain ⟨⟨z0, z1, z2, z3⟩, -⟩ := b8.four6; clear b8 m8)
                | (go_at_call 21; refine (P8.out.alike (by omega)).mono ?_; rintro e w9 ⟨rfl, m9⟩; have P9 := Lib.hid (P8.out.nil m9); clear m9))
              exact ⟨⟨j + 1, d', A7, c7, B7, k7, by omega, by omega, by go_num, P9.out, by have := HLN.out.2; have := HW.out; omega⟩, by simp [intOf]; omega⟩
          · by_cases hrs : r < 10
            · have HWR := Lib.hid (fun (W : World) (h : Pl w W db g N A1 c1 B1 k1 d) => h.sync)
              have HRW := Lib.hid (fun (W : World) (h : RdAt W A1 c1 B1 k1 d) => Pl.rsync HOK.out HLO.out hW1 HLEN.out (by omega) W h)
              have HLN := Lib.hid d.sync_len
              obtain ⟨d', hd'⟩ : ∃ d', d.sync.1 = d' := ⟨_, rfl⟩
              obtain ⟨er, her⟩ : ∃ er, d.sync.2 = er := ⟨_, rfl⟩
              rw [hd'] at HRW HWR HLN
              rw [her] at HRW HWR
              have P4 := Lib.hid (HP.out.nil ((Mods.refl Nil wr).alloc (.cells #[.int .i64 kd, .int .i64 i, .int .i64 z, .slice A2 q c2] 36)))
              have AB4 := Lib.hid (Blk.new wr 36 #[.int .i64 kd, .int .i64 i, .int .i64 z, .slice A2 q c2])
              clear hd' her HS2 HXS
              obtain rfl | rfl | rfl : r = 7 ∨ r = 8 ∨ r = 9 := by omega
              all_goals
                go_wp2_with (first
                  | (go_at_call 15; refine (HWR.out _ P4.out).mono ?_; rintro e w6 ⟨rfl, p6, m6⟩; have P6 := Lib.hid p6; obtain ⟨⟨z0, z1, z2, z3⟩, -⟩ := p6.box.four6; clear p6 m6)
                  | (go_at_call 16; refine (HRW.out _ P6.out.ref).mono ?_; rintro e w7 ⟨A7, c7, B7, k7, rfl, r7, m7⟩; have P7 := Lib.hid (P6.out.nil m7); have R7 := Lib.hid r7; clear r7 m7 z0 z1 z2 z3)
                  | (refine wpList_store_mk rfl 31 (.tmp 8) (.tmp 109) rfl rfl g rfl 31 #[.slice A1 N c1, .slice B1 d.W.length k1, .int .i64 d.left, .bool d.down] #[.slice A7 N c7, .slice B7 d'.W.length k7, .int .i64 d'.left, .bool d'.down] rfl P7.out.box rfl (by simp [Value.oneCell']) rd_info (by simp [Value.cells]) ?_; intro w8 b8 m8; have P8 := Lib.hid (P7.out.next R7.out (HLN.out.1.trans HLEN.out) b8 m8); obtain ⟨⟨z0, z1, z2, z3⟩, -⟩ := b8.four6; clear b8 m8)
                  | (go_at_call 21; refine (P8.out.alike (by omega)).mono ?_; rintro e w9 ⟨rfl, m9⟩; have P9 := Lib.hid (P8.out.nil m9); clear m9))
                exact ⟨⟨j + 1, d', A7, c7, B7, k7, by omega, by omega, by go_num, P9.out, by have := HLN.out.2; have := HW.out; omega⟩, by simp [intOf]; omega⟩
            · by_cases hrt : r < 12
              · have HWR := Lib.hid (fun (W : World) (h : Pl w W db g N A1 c1 B1 k1 d) => h.stop hz)
                have HRW := Lib.hid (fun (W : World) (h : RdAt W A1 c1 B1 k1 d) => Pl.rstop (n := N) z W h)
                have HLN : Hid ((d.stop z).L.length = d.L.length ∧ (d.stop z).W.length ≤ d.W.length) := Lib.hid ⟨rfl, Nat.le_refl _⟩
                obtain ⟨d', hd'⟩ : ∃ d', d.stop z = d' := ⟨_, rfl⟩
                rw [hd'] at HRW HWR HLN
                have P4 := Lib.hid (HP.out.nil ((Mods.refl Nil wr).alloc (.cells #[.int .i64 kd, .int .i64 i, .int .i64 z, .slice A2 q c2] 36)))
                have AB4 := Lib.hid (Blk.new wr 36 #[.int .i64 kd, .int .i64 i, .int .i64 z, .slice A2 q c2])
                clear hd' HS2 HXS
                obtain rfl | rfl : r = 10 ∨ r = 11 := by omega
                all_goals
                  go_wp2_with (first
                    | (go_at_call 17; refine (HWR.out _ P4.out).mono ?_; rintro e w6 ⟨rfl, p6, m6⟩; have P6 := Lib.hid p6; obtain ⟨⟨a0, a1, a2, a3⟩, -⟩ := (AB4.out.dm m6 (by decide)).four6; obtain ⟨⟨z0, z1, z2, z3⟩, -⟩ := p6.box.four6; clear p6 m6)
                    | (go_at_call 18; refine (HRW.out _ P6.out.ref).mono ?_; rintro e w7 ⟨A7, c7, B7, k7, rfl, r7, m7⟩; have P7 := Lib.hid (P6.out.nil m7); have R7 := Lib.hid r7; clear r7 m7 z0 z1 z2 z3 a0 a1 a2 a3)
                    | (refine wpList_store_mk rfl 31 (.tmp 8) (.tmp 121) rfl rfl g rfl 31 #[.slice A1 N c1, .slice B1 d.W.length k1, .int .i64 d.left, .bool d.down] #[.slice A7 N c7, .slice B7 d'.W.length k7, .int .i64 d'.left, .bool d'.down] rfl P7.out.box rfl (by simp [Value.oneCell']) rd_info (by simp [Value.cells]) ?_; intro w8 b8 m8; have P8 := Lib.hid (P7.out.next R7.out (HLN.out.1.trans HLEN.out) b8 m8); obtain ⟨⟨z0, z1, z2, z3⟩, -⟩ := b8.four6; clear b8 m8)
                    | (go_at_call 21; refine (P8.out.alike (by omega)).mono ?_; rintro e w9 ⟨rfl, m9⟩; have P9 := Lib.hid (P8.out.nil m9); clear m9))
                  exact ⟨⟨j + 1, d', A7, c7, B7, k7, by omega, by omega, by go_num, P9.out, by have := HLN.out.2; have := HW.out; omega⟩, by simp [intOf]; omega⟩
              · have HBS := Lib.hid (Bs.arg (base := w.heap.size) (w := w) (HS0.out) (Nat.le_refl _))
                have HWR := Lib.hid (fun (W : World) (h : Pl w W db g N A1 c1 B1 k1 d) => h.crash (HBS.out.nil h.mods) HXS.out)
                have HRW := Lib.hid (fun (W : World) (h : RdAt W A1 c1 B1 k1 d) => Pl.rcrash HOK.out hW1 HLEN.out (by omega) HXS.out (by omega) W h)
                have HLN : Hid ((d.crash xs).L.length = d.L.length ∧ (d.crash xs).W.length ≤ d.W.length) := Lib.hid ⟨crashL_length _ _ _, Nat.zero_le _⟩
                obtain ⟨d', hd'⟩ : ∃ d', d.crash xs = d' := ⟨_, rfl⟩
                rw [hd'] at HRW HWR HLN
                have P4 := Lib.hid (HP.out.nil ((Mods.refl Nil wr).alloc (.cells #[.int .i64 kd, .int .i64 i, .int .i64 z, .slice A2 q c2] 36)))
                have AB4 := Lib.hid (Blk.new wr 36 #[.int .i64 kd, .int .i64 i, .int .i64 z, .slice A2 q c2])
                clear hd'
                obtain rfl | rfl | rfl | rfl : r = 12 ∨ r = 13 ∨ r = 14 ∨ r = 15 := by omega
                all_goals
                  go_wp2_with (first
                    | (go_at_call 19; refine (HWR.out _ P4.out).mono ?_; rintro e w6 ⟨rfl, p6, m6⟩; have P6 := Lib.hid p6; obtain ⟨⟨a0, a1, a2, a3⟩, -⟩ := (AB4.out.dm m6 (by decide)).four6; obtain ⟨⟨z0, z1, z2, z3⟩, -⟩ := p6.box.four6; have cv6 := conv6 HXS.out (HBS.out.nil p6.mods).1; clear p6 m6)
                    | (go_at_call 20; refine (HRW.out _ P6.out.ref).mono ?_; rintro e w7 ⟨A7, c7, B7, k7, rfl, r7, m7⟩; have P7 := Lib.hid (P6.out.nil m7); have R7 := Lib.hid r7; clear r7 m7 z0 z1 z2 z3 a0 a1 a2 a3 cv6)
                    | (refine wpList_store_mk rfl 31 (.tmp 8) (.tmp 71) rfl rfl g rfl 31 #[.slice A1 N c1, .slice B1 d.W.length k1, .int .i64 d.left, .bool d.down] #[.slice A7 N c7, .slice B7 d'.W.length k7, .int .i64 d'.left, .bool d'.down] rfl P7.out.box rfl (by simp [Value.oneCell']) rd_info (by simp [Value.cells]) ?_; intro w8 b8 m8; have P8 := Lib.hid (P7.out.next R7.out (HLN.out.1.trans HLEN.out) b8 m8); obtain ⟨⟨z0, z1, z2, z3⟩, -⟩ := b8.four6; clear b8 m8)
                    | (go_at_call 21; refine (P8.out.alike (by omega)).mono ?_; rintro e w9 ⟨rfl, m9⟩; have P9 := Lib.hid (P8.out.nil m9); clear m9))
                  exact ⟨⟨j + 1, d', A7, c7, B7, k7, by omega, by omega, by go_num, P9.out, by have := HLN.out.2; have := HW.out; omega⟩, by simp [intOf]; omega⟩
      · have hl4I : (40 : Int) ≤ (j : Int) := by omega
        go_wp2_with fail
        go_ret
        exact ⟨rfl, HP.out.mods⟩
    · have hltI : (n : Int) ≤ (j : Int) := by omega
      go_wp2_with fail
      go_ret
      exact ⟨rfl, HP.out.mods⟩
set_option maxHeartbeats 6400000 in
theorem diskPlays_walk (w : World) {a0 : Int} (wf : (Lit.int .i64 a0).wf = true) {A : Option Addr} {c n : Nat} {l : List (List Fv)} (h : Acts w A n c [.int .i64, .int .i64, .int .i64, .bytes] l) :
    Calls Try.prog 3 #[.int .i64 a0, .slice A n c] w fun e w' => e = .returned (.bool true) ∧ Mods Nil w w' := by
  by_cases h40 : 40 < a0
  · have h40I : decide ((40 : Int) < a0) = true := by simpa using h40
    clear h wf h40
    go_enter Try.func3, Try.ntmps3
    go_wp2_with (go_at_call 9; refine (awake6_any _).mono ?_; rintro e w1 ⟨rfl, m1⟩; have M1 := Lib.hid m1; clear m1)
    go_ret
    exact ⟨rfl, M1.out⟩
  have h40I : decide ((40 : Int) < a0) = false := by simpa using h40
  by_cases h1 : a0 < 1
  · have HD := Lib.hid (fun W : World => dnew_bad W (n := a0) (.inl h1))
    have HR := Lib.hid (fun W : World => rnew_bad W (n := a0) (.inl h1))
    clear h wf h40 h1
    go_enter Try.func3, Try.ntmps3
    go_wp2_with (first
      | (go_at_call 9; refine (awake6_any _).mono ?_; rintro e w1 ⟨rfl, m1⟩; have M1 := Lib.hid m1; clear m1)
      | (go_at_call 10; refine (HD.out _).mono ?_; rintro e w2 ⟨rfl, rfl⟩)
      | (go_at_call 11; refine (HR.out _).mono ?_; rintro e w3 ⟨rfl, m3⟩; have M3 := Lib.hid (M1.out.trans m3); clear m3))
    go_loopw [10] (fun x wr => x = .int .i64 0 ∧ Mods Nil w wr) (fun x _ => 0)
    case atStart => exact ⟨rfl, by first | exact M3.out | exact M3.out.alloc _ | exact (M3.out.alloc _).drew⟩
    case round =>
      obtain ⟨rfl, hmo⟩ := hrel
      have HMO := Lib.hid hmo
      clear hmo
      by_cases hz : n = 0
      · subst hz
        go_wp2_with fail
        go_ret
        exact ⟨rfl, HMO.out⟩
      · have hzI : (0 : Int) < (n : Int) := by omega
        go_wp2_with fail
        go_ret
        exact ⟨rfl, HMO.out⟩
  obtain ⟨N, rfl⟩ : ∃ N : Nat, a0 = (N : Int) := ⟨a0.toNat, by omega⟩
  exact diskPlays_main w (by omega) (by omega) h
end Go.Proofs.Ytahahnapnfalcaa
