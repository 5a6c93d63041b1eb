/- SegmentRoom's walk. -/
import Derived.Test.YtgebcpfgihcoiaaHelp7
import Derived.Deep.OwnRows
namespace Go.Proofs.Ytgebcpfgihcoiaa
set_option maxRecDepth 1000000
open Go.RowKit
set_option linter.unusedVariables false

theorem slen_nil (w : World) : Calls Try.prog 30 #[.pointer none] w fun e w' => e = .returned (.int .i64 0) ∧ w = w' := by
  go_enter Try.func30, Try.ntmps30
  go_wp2_with fail
  go_ret
  exact ⟨rfl, rfl⟩
theorem ssure_nil (w : World) : Calls Try.prog 31 #[.pointer none] w fun e w' => e = .returned (.int .i64 0) ∧ w = w' := by
  go_enter Try.func31, Try.ntmps31
  go_wp2_with fail
  go_ret
  exact ⟨rfl, rfl⟩
theorem sfree_nil (w : World) : Calls Try.prog 33 #[.pointer none] w fun e w' => e = .returned (.int .i64 0) ∧ w = w' := by
  go_enter Try.func33, Try.ntmps33
  go_wp2_with fail
  go_ret
  exact ⟨rfl, rfl⟩
theorem strim_nil (w : World) (k : Int) : Calls Try.prog 19 #[.pointer none, .int .i64 k] w fun e w' => e = .returned (.int .i64 0) ∧ w = w' := by
  go_enter Try.func19, Try.ntmps19
  go_wp2_with fail
  go_ret
  exact ⟨rfl, rfl⟩
theorem made_bts (n : Nat) : madeCells #[.int .u8 0] n = (bts (List.replicate n 0)).toArray := by
  apply Array.ext'
  rw [toList_madeCells_one]
  simp [bts]
set_option maxHeartbeats 12800000 in
theorem segmentRoom_walk (w : World) {z0 : Int} (hz0 : (Lit.int .u8 z0).wf = true) {A : Option Addr} {c nn : Nat} {xs : List UInt8} (hn : xs.length = nn) (hs : Sl w A c (bts xs)) :
    Calls Try.prog 5 #[.int .u8 z0, .slice A nn c] w fun e w' => e = .returned (.bool true) ∧ Mods Nil w w' := by
  obtain ⟨p, rfl, hp⟩ := u8_nat7 hz0
  clear hz0
  by_cases h30 : 30 < nn
  · have h30I : (30 : Int) < (nn : Int) := by omega
    clear hs hn
    go_enter Try.func5, Try.ntmps5
    go_wp2_with (go_at_call 9; refine (awake7_any _).mono ?_; rintro e w1 ⟨rfl, m1⟩; have M1 := Lib.hid m1; clear m1)
    go_ret
    exact ⟨rfl, M1.out⟩
  have h30I : (nn : Int) ≤ 30 := by omega
  obtain ⟨i0, hi0, hz0, hz1, hz2⟩ := info_parts infoByte
  obtain ⟨k0, hk0⟩ : ∃ k0, p % 20 = k0 := ⟨_, rfl⟩
  obtain ⟨k, hk⟩ : ∃ k, k0 + 1 = k := ⟨_, rfl⟩
  have t1 : Int.tmod (p : Int) 20 = (k0 : Int) := by rw [Int.tmod_eq_emod_of_nonneg (by omega)]; omega
  have v1 : IntKind.u8.wrap (k0 : Int) = (k0 : Int) := by rw [IntKind.wrap_u8']; omega
  have v2 : IntKind.i64.wrap (k0 : Int) = (k0 : Int) := by rw [IntKind.wrap_i64]; omega
  have v3 : (k0 : Int) + 1 = (k : Int) := by omega
  have v4 : IntKind.i64.wrap (k : Int) = (k : Int) := by rw [IntKind.wrap_i64]; omega
  have HK20 := Lib.hid (show 1 ≤ k ∧ k ≤ 20 by omega)
  have HN := Lib.hid (new7 k (by omega) (by omega))
  have HO := Lib.hid (open7 k (by omega) (by omega))
  have HS := Lib.hid hs
  have HL := Lib.hid hn
  clear hs hn hp hk hk0 h30
  go_enter Try.func5, Try.ntmps5
  go_wp2_with (first
    | (go_at_call 9; refine (awake7_any _).mono ?_; rintro e w1 ⟨rfl, m1⟩; have M1 := Lib.hid m1; clear m1)
    | (go_at_call 10; refine (HN.out _ w.heap.size M1.out.size).mono ?_; rintro e w2 ⟨db, rfl, d2, m2⟩; have D2 := Lib.hid d2; have M2 := Lib.hid (M1.out.trans m2); clear d2 m2)
    | (go_at_call 12; refine (HO.out _ w.heap.size _ D2.out M2.out.size).mono ?_; rintro e w3 ⟨sb, rfl, a3, m3⟩; have A3 := Lib.hid a3; have M3 := Lib.hid (M2.out.trans m3); clear a3 m3))
  go_loopw [11, 12, 13] (fun us mn x wr => ∃ (i used many : Nat) (news : List (List UInt8)), i ≤ nn ∧ x = .int .i64 (i : Int) ∧ us = .int .i64 (used : Int) ∧ mn = .int .i64 (many : Int) ∧ usedP (with_ 1 news) = used ∧ news.length = many ∧ used ≤ k ∧ many ≤ i ∧ At7 wr w.heap.size sb db [] (List.replicate k zeros64) [] [] news 1 k ∧ Mods Nil w wr) (fun _ _ x _ => nn - (intOf x).toNat)
  case atStart => exact ⟨0, 0, 0, [], Nat.zero_le _, rfl, rfl, rfl, rfl, rfl, Nat.zero_le _, Nat.le_refl _, A3.out, M3.out⟩
  case round =>
    obtain ⟨i, used, many, news, hi, rfl, rfl, rfl, hu, hm, huk, hmi, hg, hmo⟩ := hrel
    have HA := Lib.hid hg
    have HM := Lib.hid hmo
    have HU := Lib.hid hu
    have HMN := Lib.hid hm
    clear hg hmo hu hm
    by_cases hlt : i < nn
    · have hltI : (i : Int) < (nn : Int) := by omega
      have w6 : IntKind.i64.wrap ((i : Int) + 1) = (i : Int) + 1 := by rw [IntKind.wrap_i64]; omega
      have w7 : IntKind.i64.wrap ((many : Int) + 1) = (many : Int) + 1 := by rw [IntKind.wrap_i64]; omega
      have hix : i < xs.length := by rw [HL.out]; exact hlt
      obtain ⟨bA, oA, rfl, hblt, hc⟩ := HS.out.at_ (by rw [bts_length]; omega)
      have hcell := hc i _ (bts_get xs i hix)
      have hx8 := (xs[i]'hix).toNat_lt
      obtain ⟨x, hx⟩ : ∃ x, (xs[i]'hix).toNat = x := ⟨_, rfl⟩
      rw [hx] at hcell hx8
      have CF : Hid (∀ V, Mods Nil w V → V.cell? ⟨bA, oA + i, none⟩ = some (.int .u8 (x : Int))) := Lib.hid (fun V hV => (World.cell?_of_block (hV.block bA hblt (fun h => h))).trans hcell)
      have c1 := CF.out wr HM.out
      clear hc hcell hx hix hblt
      obtain ⟨y, hy⟩ : ∃ y, (x + 44) / 45 = y := ⟨_, rfl⟩
      have w8 : IntKind.i64.wrap (x : Int) = (x : Int) := by rw [IntKind.wrap_i64]; omega
      have w9 : IntKind.i64.wrap ((x : Int) + 44) = (x : Int) + 44 := by rw [IntKind.wrap_i64]; omega
      have t2 : ((x : Int) + 44).tdiv 45 = (y : Int) := by rw [Int.tdiv_eq_ediv_of_nonneg (by omega)]; omega
      have w10 : IntKind.i64.wrap (y : Int) = (y : Int) := by rw [IntKind.wrap_i64]; omega
      obtain ⟨m, hmm⟩ : ∃ m, needP x = m := ⟨_, rfl⟩
      have hmy : (y = 0 ∧ m = 1) ∨ (1 ≤ y ∧ m = y) := by
        unfold needP at hmm
        split at hmm <;> omega
      have hm6 : m ≤ 6 := by omega
      have HNEED := Lib.hid (fun V => sneed_any V x (by omega))
      rw [hmm] at HNEED
      have HMM := Lib.hid hmm
      have HX8 := Lib.hid hx8
      have hu1 : IntKind.i64.wrap ((used : Int) + (m : Int)) = (used : Int) + (m : Int) := by rw [IntKind.wrap_i64]; have := HK20.out; omega
      have HFREE : ∀ u : Nat, u ≤ k → IntKind.i64.wrap ((k : Int) - (u : Int)) = ((k - u : Nat) : Int) := fun u hu => by rw [IntKind.wrap_i64]; have := HK20.out; omega
      have hR : Hid ((List.replicate x (0 : UInt8)).length = x) := Lib.hid (List.length_replicate ..)
      clear hy hmm
      rcases hmy with ⟨h1, h2⟩ | ⟨hy1, h2⟩
      · subst h1
        subst h2
        replace hu1 : IntKind.i64.wrap ((used : Int) + 1) = (used : Int) + 1 := by simpa using hu1
        replace t2 : ((x : Int) + 44).tdiv 45 = 0 := by simpa using t2
        clear w10
        by_cases hroom : k < used + 1
        · have hrI : (k : Int) < (used : Int) + (1 : Int) := by omega
          have hf := HFREE used huk
          go_wp2_with (first
            | (at_make; refine wpList_make_row _ rfl _ _ 42 rfl 5 i0 (.int .u8 0) Try.underlying42 hi0 hz0 hz1 rfl .i64 .i64 x rfl rfl (by rw [hz2]; have := HX8.out; omega) (by have := HX8.out; omega) ?_; have BS := Lib.hid (sb_new (n := x) (fr := (0, 0)) w.heap.size wr (made_bts x) hR.out (by have := HX8.out; unfold maxLen; omega)); have M4 := Lib.hid ((Mods.refl Nil wr).alloc (.cells (madeCells #[.int .u8 0] x) 5)); have c2 := CF.out _ (HM.out.trans M4.out))
            | (go_at_call 14; refine (a7full (HA.out.nil M4.out) (by have := HU.out; have := HK20.out; omega) BS.out hR.out (by have := HX8.out; omega) (by rw [HU.out, HMM.out]; show k < 0 + used + 1; omega)).mono ?_; rintro e w5 ⟨rfl, a5, m5⟩; have A5 := Lib.hid a5; have M5 := Lib.hid (SM.nilTrans (HM.out.trans M4.out) (Nat.le_refl _) m5); clear a5 m5)
            | (go_at_call 33; refine (a7free A5.out (k := ((k - used : Nat) : Int)) (by rw [HU.out]; show ((k - (0 + used) : Nat) : Int) = _; congr 1; omega)).mono ?_; rintro e w6 ⟨rfl, m6⟩; have A6 := Lib.hid (A5.out.nil m6); have M6 := Lib.hid (M5.out.trans m6); clear m6)
            | (go_at_call 30; refine (a7len A6.out (k := (many : Int)) (by rw [HMN.out]; simp)).mono ?_; rintro e w7 ⟨rfl, m7⟩; have A7 := Lib.hid (A6.out.nil m7); have M7 := Lib.hid (M6.out.trans m7); have c3 := CF.out _ M7.out; clear m7)
            | (go_at_call 34; refine (HNEED.out _).mono ?_; rintro e w8 ⟨rfl, rfl⟩))
          exact ⟨⟨i + 1, used, many, news, by omega, by go_num, rfl, rfl, HU.out, HMN.out, huk, by omega, A7.out, M7.out⟩, by simp [intOf]; omega⟩
        · have hrI : (used : Int) + (1 : Int) ≤ (k : Int) := by omega
          obtain ⟨um, hum⟩ : ∃ um, used + 1 = um := ⟨_, rfl⟩
          have humI : (used : Int) + (1 : Int) = (um : Int) := by omega
          have hf := HFREE um (by omega)
          have HU2 : Hid (usedP (with_ 1 (news ++ [List.replicate x 0])) = um) := by
            rw [with_snoc, HU.out, hR.out, HMM.out]
            exact hum
          rw [humI] at hu1 hrI
          go_wp2_with (first
            | (at_make; refine wpList_make_row _ rfl _ _ 42 rfl 5 i0 (.int .u8 0) Try.underlying42 hi0 hz0 hz1 rfl .i64 .i64 x rfl rfl (by rw [hz2]; have := HX8.out; omega) (by have := HX8.out; omega) ?_; have BS := Lib.hid (sb_new (n := x) (fr := (0, 0)) w.heap.size wr (made_bts x) hR.out (by have := HX8.out; unfold maxLen; omega)); have M4 := Lib.hid ((Mods.refl Nil wr).alloc (.cells (madeCells #[.int .u8 0] x) 5)); have c2 := CF.out _ (HM.out.trans M4.out))
            | (go_at_call 14; refine (a7append (k := (many : Int)) (HA.out.nil M4.out) (by have := HU.out; have := HK20.out; omega) BS.out hR.out (by have := HX8.out; omega) (by rw [HU.out, HMM.out]; show 0 + used + 1 ≤ k; omega) (by rw [HMN.out]; simp)).mono ?_; rintro e w5 ⟨rfl, a5, m5⟩; have A5 := Lib.hid a5; have M5 := Lib.hid (SM.nilTrans (HM.out.trans M4.out) (Nat.le_refl _) m5); clear a5 m5)
            | (go_at_call 33; refine (a7free A5.out (k := ((k - um : Nat) : Int)) (by rw [HU2.out]; show ((k - (0 + um) : Nat) : Int) = _; congr 1; omega)).mono ?_; rintro e w6 ⟨rfl, m6⟩; have A6 := Lib.hid (A5.out.nil m6); have M6 := Lib.hid (M5.out.trans m6); clear m6)
            | (go_at_call 30; refine (a7len A6.out (k := (many : Int) + 1) (by have := HMN.out; simp; omega)).mono ?_; rintro e w7 ⟨rfl, m7⟩; have A7 := Lib.hid (A6.out.nil m7); have M7 := Lib.hid (M6.out.trans m7); have c3 := CF.out _ M7.out; clear m7)
            | (go_at_call 34; refine (HNEED.out _).mono ?_; rintro e w8 ⟨rfl, rfl⟩))
          exact ⟨⟨i + 1, um, many + 1, _, by omega, by go_num, by go_num, by go_num, HU2.out, by have := HMN.out; simp; omega, by omega, by omega, A7.out, M7.out⟩, by simp [intOf]; omega⟩
      · subst h2
        have hy0I : ((m : Int) == 0) = false := by simp; omega
        by_cases hroom : k < used + m
        · have hrI : (k : Int) < (used : Int) + (m : Int) := by omega
          have hf := HFREE used huk
          go_wp2_with (first
            | (at_make; refine wpList_make_row _ rfl _ _ 42 rfl 5 i0 (.int .u8 0) Try.underlying42 hi0 hz0 hz1 rfl .i64 .i64 x rfl rfl (by rw [hz2]; have := HX8.out; omega) (by have := HX8.out; omega) ?_; have BS := Lib.hid (sb_new (n := x) (fr := (0, 0)) w.heap.size wr (made_bts x) hR.out (by have := HX8.out; unfold maxLen; omega)); have M4 := Lib.hid ((Mods.refl Nil wr).alloc (.cells (madeCells #[.int .u8 0] x) 5)); have c2 := CF.out _ (HM.out.trans M4.out))
            | (go_at_call 14; refine (a7full (HA.out.nil M4.out) (by have := HU.out; have := HK20.out; omega) BS.out hR.out (by have := HX8.out; omega) (by rw [HU.out, HMM.out]; show k < 0 + used + m; omega)).mono ?_; rintro e w5 ⟨rfl, a5, m5⟩; have A5 := Lib.hid a5; have M5 := Lib.hid (SM.nilTrans (HM.out.trans M4.out) (Nat.le_refl _) m5); clear a5 m5)
            | (go_at_call 33; refine (a7free A5.out (k := ((k - used : Nat) : Int)) (by rw [HU.out]; show ((k - (0 + used) : Nat) : Int) = _; congr 1; omega)).mono ?_; rintro e w6 ⟨rfl, m6⟩; have A6 := Lib.hid (A5.out.nil m6); have M6 := Lib.hid (M5.out.trans m6); clear m6)
            | (go_at_call 30; refine (a7len A6.out (k := (many : Int)) (by rw [HMN.out]; simp)).mono ?_; rintro e w7 ⟨rfl, m7⟩; have A7 := Lib.hid (A6.out.nil m7); have M7 := Lib.hid (M6.out.trans m7); have c3 := CF.out _ M7.out; clear m7)
            | (go_at_call 34; refine (HNEED.out _).mono ?_; rintro e w8 ⟨rfl, rfl⟩))
          exact ⟨⟨i + 1, used, many, news, by omega, by go_num, rfl, rfl, HU.out, HMN.out, huk, by omega, A7.out, M7.out⟩, by simp [intOf]; omega⟩
        · have hrI : (used : Int) + (m : Int) ≤ (k : Int) := by omega
          obtain ⟨um, hum⟩ : ∃ um, used + m = um := ⟨_, rfl⟩
          have humI : (used : Int) + (m : Int) = (um : Int) := by omega
          have hf := HFREE um (by omega)
          have HU2 : Hid (usedP (with_ 1 (news ++ [List.replicate x 0])) = um) := by
            rw [with_snoc, HU.out, hR.out, HMM.out]
            exact hum
          rw [humI] at hu1 hrI
          go_wp2_with (first
            | (at_make; refine wpList_make_row _ rfl _ _ 42 rfl 5 i0 (.int .u8 0) Try.underlying42 hi0 hz0 hz1 rfl .i64 .i64 x rfl rfl (by rw [hz2]; have := HX8.out; omega) (by have := HX8.out; omega) ?_; have BS := Lib.hid (sb_new (n := x) (fr := (0, 0)) w.heap.size wr (made_bts x) hR.out (by have := HX8.out; unfold maxLen; omega)); have M4 := Lib.hid ((Mods.refl Nil wr).alloc (.cells (madeCells #[.int .u8 0] x) 5)); have c2 := CF.out _ (HM.out.trans M4.out))
            | (go_at_call 14; refine (a7append (k := (many : Int)) (HA.out.nil M4.out) (by have := HU.out; have := HK20.out; omega) BS.out hR.out (by have := HX8.out; omega) (by rw [HU.out, HMM.out]; show 0 + used + m ≤ k; omega) (by rw [HMN.out]; simp)).mono ?_; rintro e w5 ⟨rfl, a5, m5⟩; have A5 := Lib.hid a5; have M5 := Lib.hid (SM.nilTrans (HM.out.trans M4.out) (Nat.le_refl _) m5); clear a5 m5)
            | (go_at_call 33; refine (a7free A5.out (k := ((k - um : Nat) : Int)) (by rw [HU2.out]; show ((k - (0 + um) : Nat) : Int) = _; congr 1; omega)).mono ?_; rintro e w6 ⟨rfl, m6⟩; have A6 := Lib.hid (A5.out.nil m6); have M6 := Lib.hid (M5.out.trans m6); clear m6)
            | (go_at_call 30; refine (a7len A6.out (k := (many : Int) + 1) (by have := HMN.out; simp; omega)).mono ?_; rintro e w7 ⟨rfl, m7⟩; have A7 := Lib.hid (A6.out.nil m7); have M7 := Lib.hid (M6.out.trans m7); have c3 := CF.out _ M7.out; clear m7)
            | (go_at_call 34; refine (HNEED.out _).mono ?_; rintro e w8 ⟨rfl, rfl⟩))
          exact ⟨⟨i + 1, um, many + 1, _, by omega, by go_num, by go_num, by go_num, HU2.out, by have := HMN.out; simp; omega, by omega, by omega, A7.out, M7.out⟩, by simp [intOf]; omega⟩
    · obtain rfl : i = nn := by omega
      have hR7 : Hid ((List.replicate 4097 (0 : UInt8)).length = 4097) := Lib.hid (List.length_replicate ..)
      go_wp2_with (first
        | (at_make; refine wpList_make_row _ rfl _ _ 42 rfl 5 i0 (.int .u8 0) Try.underlying42 hi0 hz0 hz1 rfl .i64 .i64 4097 rfl rfl (by rw [hz2]; omega) (by omega) ?_; have BS := Lib.hid (sb_new (n := 4097) (fr := (0, 0)) w.heap.size wr (made_bts 4097) hR7.out (by unfold maxLen; omega)); have M4 := Lib.hid ((Mods.refl Nil wr).alloc (.cells (madeCells #[.int .u8 0] 4097) 5)))
        | (go_at_call 14; refine (a7big (HA.out.nil M4.out) (by have := HU.out; have := HK20.out; omega) BS.out hR7.out (by omega)).mono ?_; rintro e w5 ⟨rfl, a5, m5⟩; have M5 := Lib.hid (SM.nilTrans (HM.out.trans M4.out) (Nat.le_refl _) m5); clear a5 m5)
        | (go_at_call 14; refine (sappend_nil _ _ _ _).mono ?_; rintro e w4 ⟨rfl, rfl⟩)
        | (go_at_call 32; refine (sread_nil _ _).mono ?_; rintro e w4 ⟨rfl, rfl⟩)
        | (go_at_call 17; refine (ssync_nil _).mono ?_; rintro e w4 ⟨rfl, rfl⟩)
        | (go_at_call 30; refine (slen_nil _).mono ?_; rintro e w4 ⟨rfl, rfl⟩)
        | (go_at_call 31; refine (ssure_nil _).mono ?_; rintro e w4 ⟨rfl, rfl⟩)
        | (go_at_call 33; refine (sfree_nil _).mono ?_; rintro e w4 ⟨rfl, rfl⟩)
        | (go_at_call 19; refine (strim_nil _ _).mono ?_; rintro e w4 ⟨rfl, rfl⟩))
      go_ret
      exact ⟨rfl, M5.out⟩
end Go.Proofs.Ytgebcpfgihcoiaa
