/- FrameGets' walk. -/
import Derived.Test.YtncmmiecfkfcgaaFramePutsWalk
import Derived.Test.YtncmmiecfkfcgaaFrameRowWalk
import Derived.Test.YtncmmiecfkfcgaaRef03c
import Derived.Deep.QuietTactic
import Derived.BigQuiet
namespace Go.Proofs.Ytncmmiecfkfcgaa
open Go.RowKit
set_option linter.unusedVariables false

theorem sfrs_at : ∀ (l : List (UInt8 × List UInt8)) (j : Nat) (h : j < l.length), (sfrs l)[j * 2]? = some (.int .u8 (l[j].1.toNat : Int)) ∧ (sfrs l)[j * 2 + 1]? = some (.string (strOf l[j].2))
  | f :: l, 0, _ => by simp [sfrs]
  | f :: l, j + 1, h => by
    have e : sfrs (f :: l) = [.int .u8 (f.1.toNat : Int), .string (strOf f.2)] ++ sfrs l := by simp [sfrs]
    have ih := sfrs_at l j (by simpa using h)
    rw [e, show (j + 1) * 2 = j * 2 + 2 by omega]
    refine ⟨?_, ?_⟩
    · rw [List.getElem?_append_right (by simp)]
      simpa using ih.1
    · rw [show j * 2 + 2 + 1 = (j * 2 + 1) + 2 by omega, List.getElem?_append_right (by simp)]
      simpa using ih.2

set_option maxRecDepth 100000 in
set_option maxHeartbeats 6400000 in
theorem frameGets_walk (w : World) {A : Option Addr} {c n : Nat} {xs : List UInt8} (hn : xs.length = n) (hs : Sl w A c (bts xs)) :
    Calls Try.prog 3 #[.slice A n c] w fun e w' => e = .returned (.bool true) ∧ Mods Nil w w' := by
  have hmx := hs.max
  have hle := hs.le
  unfold maxLen at hmx
  simp at hle
  by_cases hbig : 500 < n
  · have hb : (500 : Int) < (n : Int) := by omega
    clear hs
    go_enter Try.func3, Try.ntmps3
    go_wp2_with (first | (go_at_call 9; refine (awake_any _).mono ?_; rintro e w1 ⟨rfl, m1⟩; have M1 := Lib.hid m1; clear m1))
    go_ret
    exact ⟨rfl, M1.out⟩
  · have hb : (n : Int) ≤ 500 := by omega
    have hn500 : n ≤ 500 := by omega
    obtain ⟨E, hE⟩ : ∃ E, getE xs = E := ⟨_, rfl⟩
    obtain ⟨K, hK⟩ : ∃ K, (gotK xs).toNat = K := ⟨_, rfl⟩
    obtain ⟨bb, hbb⟩ : ∃ bb, gotB xs = bb := ⟨_, rfl⟩
    obtain ⟨bl, hbl⟩ : ∃ bl, bb.length = bl := ⟨_, rfl⟩
    obtain ⟨N, hN⟩ : ∃ N, gotN xs = N := ⟨_, rfl⟩
    obtain ⟨L, hL⟩ : ∃ L, (allOf xs).1 = L := ⟨_, rfl⟩
    obtain ⟨T, hT⟩ : ∃ T, (allOf xs).2 = T := ⟨_, rfl⟩
    obtain ⟨q, hq⟩ : ∃ q, L.length = q := ⟨_, rfl⟩
    have HG : Hid (∀ W A2 c2 n2, xs.length = n2 → Sl W A2 c2 (bts xs) → Calls Try.prog 10 #[.slice A2 n2 c2] W fun e w' => ∃ A3 c3, e = .returned (.tuple #[.agg #[.int .u8 (K : Int), .slice A3 bl c3], .int .i64 (N : Int), .int .i64 E]) ∧ Sl w' A3 c3 (bts bb) ∧ Mods Nil W w') := fun W A2 c2 n2 h1 h2 => by
      refine (get_any h1 h2).mono ?_
      rintro e w' ⟨A3, c3, he, hs3, _, hm⟩
      rw [hK, hbb, hbl, hN, hE] at he
      rw [hbb] at hs3
      exact ⟨A3, c3, he, hs3, hm⟩
    have HRG : Hid (∀ W, Calls Try.prog 11 #[.string (strOf xs)] W fun e w' => e = .returned (.tuple #[.agg #[.int .u8 (K : Int), .string (strOf bb)], .int .i64 (N : Int), .int .i64 E]) ∧ Mods Nil W w') := fun W => by
      have := r3get_any W xs (by omega)
      unfold RGot at this
      rw [hK, hbb, hN, hE] at this
      exact this
    have HAL : Hid (∀ W A2 c2 n2, xs.length = n2 → Sl W A2 c2 (bts xs) → Calls Try.prog 12 #[.slice A2 n2 c2] W fun e w' => ∃ A3 c3 l, e = .returned (.tuple #[.slice A3 q c3, .int .i64 (T : Int)]) ∧ q ≤ c3 ∧ c3 ≤ maxLen ∧
        (0 < q → ∃ g, A3 = some ⟨g, 0, none⟩ ∧ ∀ j u, (frs (l.map (·.1)))[j]? = some u → w'.cell? ⟨g, j, none⟩ = some u) ∧ (∀ f ∈ l, f.1.ok W.heap.size w') ∧ plainOf l = L ∧ l.length = q ∧ Mods Nil W w') := fun W A2 c2 n2 h1 h2 => by
      refine (all_any h1 (by omega) h2).mono ?_
      rintro e w' ⟨v, l, he, ho, hk, hp, hm⟩
      rw [hL] at hp
      have hlq : l.length = q := by rw [← plain_length, hp]; exact hq
      rw [hlq] at ho
      obtain ⟨A3, c3, rfl, h3, h4, h5⟩ := own2_slice ho
      exact ⟨A3, c3, l, by rw [he, hT], h3, h4, h5, hk, hp, hlq, hm⟩
    have HRA : Hid (∀ W, Calls Try.prog 13 #[.string (strOf xs)] W fun e w' => ∃ A3 c3, e = .returned (.tuple #[.slice A3 q c3, .int .i64 (T : Int)]) ∧ q ≤ c3 ∧ c3 ≤ maxLen ∧
        (0 < q → ∃ g, A3 = some ⟨g, 0, none⟩ ∧ ∀ j u, (sfrs L)[j]? = some u → w'.cell? ⟨g, j, none⟩ = some u) ∧ Mods Nil W w') := fun W => by
      refine (r3all_any W xs (by omega)).mono ?_
      rintro e w' ⟨v, he, ho, hm⟩
      rw [hL, hq] at ho
      obtain ⟨A3, c3, rfl, h3, h4, h5⟩ := own2_slice ho
      exact ⟨A3, c3, by rw [he, hT], h3, h4, h5, hm⟩
    have HN := Lib.hid hn
    have HS := Lib.hid hs
    have HBL := Lib.hid hbl
    have HQ := Lib.hid hq
    have e1 := strOf_toList bb
    clear hE hK hbb hbl hN hL hT hq hn hs hle hbig
    go_enter Try.func3, Try.ntmps3
    go_wp2_with (first
      | (go_at_call 9; refine (awake_any _).mono ?_; rintro e w1 ⟨rfl, m1⟩; have M1 := Lib.hid m1; clear m1)
      | (go_at_call 10; refine (HG.out _ _ _ _ HN.out (HS.out.mods M1.out (fun _ _ h => h))).mono ?_; rintro e w2 ⟨A2, c2, rfl, s2, m2⟩; have B2 := Lib.hid (Blk.new w2 25 #[.int .u8 (K : Int), .slice A2 bl c2]); have S2 := Lib.hid (s2.alloc (.cells #[.int .u8 (K : Int), .slice A2 bl c2] 25)); have M2 := Lib.hid ((M1.out.trans m2).alloc (.cells #[.int .u8 (K : Int), .slice A2 bl c2] 25)); have kc2 := conv_sl HN.out (HS.out.mods M2.out (fun _ _ h => h)); clear s2 m2)
      | (go_at_call 11; refine (HRG.out _).mono ?_; rintro e w3 ⟨rfl, m3⟩; have bF := (B2.out.mods m3 (fun h => h)).alloc (.cells #[.int .u8 (K : Int), .string (strOf bb)] 30); obtain ⟨f0, f1, f2, f3⟩ := bF.two; obtain ⟨g0, g1, g2, g3⟩ := (Blk.new w3 30 #[.int .u8 (K : Int), .string (strOf bb)]).two; have kc3 := conv_sl HBL.out ((S2.out.mods m3 (fun _ _ h => h)).alloc (.cells #[.int .u8 (K : Int), .string (strOf bb)] 30)); have M3 := Lib.hid ((M2.out.trans m3).alloc (.cells #[.int .u8 (K : Int), .string (strOf bb)] 30)); clear m3 bF)
      | (go_at_call 12; refine (HAL.out _ _ _ _ HN.out (HS.out.mods M3.out (fun _ _ h => h))).mono ?_; rintro e w5 ⟨A5, c5, l5, rfl, h51, h52, h53, k5, p5, l5q, m5⟩; have M5 := Lib.hid (M3.out.trans m5); have kc5 := conv_sl HN.out (HS.out.mods M5.out (fun _ _ h => h)); have H53 := Lib.hid h53; have K5 := Lib.hid k5; have P5 := Lib.hid p5; have L5 := Lib.hid l5q; clear m5 h53 k5 p5 l5q)
      | (go_at_call 13; refine (HRA.out _).mono ?_; rintro e w6 ⟨A6, c6, rfl, h61, h62, h63, m6⟩; have M6 := Lib.hid (M5.out.trans m6); have N6 := Lib.hid m6; have H63 := Lib.hid h63; clear m6 h63))
    have hq63 : (q : Int) ≤ 9223372036854775807 := by unfold maxLen at h52; omega
    go_loopw [14] (fun i W => ∃ j : Nat, j ≤ q ∧ i = .int .i64 j ∧ Mods Nil w6 W) (fun i _ => q - (intOf i).toNat)
    case atStart => exact ⟨0, by omega, rfl, Mods.refl _ _⟩
    case round =>
      obtain ⟨j, hj, rfl, hmo⟩ := hrel
      by_cases hlt : j < q
      · obtain ⟨g5, rfl, hcell5⟩ := H53.out (by omega)
        obtain ⟨g6, rfl, hcell6⟩ := H63.out (by omega)
        have hm5 : Mods Nil w5 wr := N6.out.trans hmo
        obtain ⟨fr, hfr1, hfr2, hfr3, hfr4⟩ := row_at P5.out L5.out K5.out hcell5 hlt
        have hjL : j < L.length := by rw [HQ.out]; exact hlt
        obtain ⟨hr1, hr2⟩ := sfrs_at L j hjL
        rw [List.getElem?_eq_getElem hjL] at hfr1
        injection hfr1 with hfr1
        rw [hfr1] at hr1 hr2
        simp only at hr1 hr2
        have hd1 := hcell6 _ _ hr1
        have hd2 := hcell6 _ _ hr2
        obtain ⟨p, hp⟩ : ∃ p, fr.xs.length = p := ⟨_, rfl⟩
        rw [hp] at hfr4
        have c1 : wr.cell? ⟨g5, j * 2, none⟩ = some (.int .u8 (fr.k.toNat : Int)) := (World.cell?_of_block (hm5.block g5 (World.block_lt_of_cell? w5 _ hfr3) (fun h => h))).trans hfr3
        have c2 : wr.cell? ⟨g5, j * 2 + 1, none⟩ = some (.slice fr.A p fr.c) := (World.cell?_of_block (hm5.block g5 (World.block_lt_of_cell? w5 _ hfr3) (fun h => h))).trans hfr4
        have c3 : wr.cell? ⟨g6, j * 2, none⟩ = some (.int .u8 (fr.k.toNat : Int)) := (World.cell?_of_block (hmo.block g6 (World.block_lt_of_cell? w6 _ hd1) (fun h => h))).trans hd1
        have c4 : wr.cell? ⟨g6, j * 2 + 1, none⟩ = some (.string (strOf fr.xs)) := (World.cell?_of_block (hmo.block g6 (World.block_lt_of_cell? w6 _ hd1) (fun h => h))).trans hd2
        have s1 : Sl wr fr.A fr.c (bts fr.xs) := hfr2.mods hm5 (fun _ _ h => h)
        have q1 : ∀ nq, (convert 22 9 (.slice fr.A p fr.c)).run Try.prog (wr.drewN nq) = .ok (.string (strOf fr.xs)) (wr.drewN nq) := fun nq => conv_sl hp (s1.drewN nq)
        have hjI : (j : Int) < (q : Int) := by omega
        have e2 := strOf_toList fr.xs
        have HMM := Lib.hid hmo
        clear hcell5 hcell6 hm5 hfr1 hfr2 hfr3 hfr4 hr1 hr2 hp s1 hmo hd1 hd2 hjL
        go_wp2_with fail
        go_quiet (fail)
        go_wp2
        exact ⟨⟨j + 1, by omega, by go_num, HMM.out.drewN _⟩, by simp [intOf]; omega⟩
      · go_wp2_with fail
        go_ret
        exact ⟨rfl, M6.out.trans hmo⟩
end Go.Proofs.Ytncmmiecfkfcgaa
