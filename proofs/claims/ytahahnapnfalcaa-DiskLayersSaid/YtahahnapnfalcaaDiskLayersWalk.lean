/- DiskLayers' walk. -/
import Derived.Test.YtahahnapnfalcaaHelp6
namespace Go.Proofs.Ytahahnapnfalcaa
set_option maxRecDepth 1000000
open Go.RowKit
set_option linter.unusedVariables false

/-- So many of the writes; what a crash lays of them. -/
def laysP (ls : List (List UInt8)) (j : Nat) : List (Nat × List UInt8) := (ls.take j).map fun b => (0, fillP b)
def layP (ls : List (List UInt8)) (pick : List UInt8) (j : Nat) : List UInt8 := (crashF [zeros64] (laysP ls j) pick).getD 0 []
theorem layP_one (ls : List (List UInt8)) (pick : List UInt8) (j : Nat) : crashF [zeros64] (laysP ls j) pick = [layP ls pick j] := by
  have h := crashF_length [zeros64] (laysP ls j) pick
  unfold layP
  obtain ⟨x, hx⟩ := List.length_eq_one_iff.1 (by simpa using h)
  rw [hx]
  rfl
theorem laysP_next {ls : List (List UInt8)} {j : Nat} {b : List UInt8} (h : ls[j]? = some b) : laysP ls (j + 1) = laysP ls j ++ [(0, fillP b)] := by
  obtain ⟨h1, h2⟩ := List.getElem?_eq_some_iff.1 h
  unfold laysP
  rw [List.take_succ_eq_append_getElem h1, h2]
  simp
theorem laysP_length {ls : List (List UInt8)} {j : Nat} (h : j ≤ ls.length) : (laysP ls j).length = j := by simp [laysP]; omega
theorem layP_next {ls : List (List UInt8)} {pick : List UInt8} {j f : Nat} {b : List UInt8} (h : ls[j]? = some b) (hf : frontN pick j = f) : layP ls pick (j + 1) = tear f (fillP b) (layP ls pick j) := by
  have hj : j ≤ ls.length := Nat.le_of_lt (List.getElem?_eq_some_iff.1 h).1
  have e := crashF_snoc (0, fillP b) (laysP ls j) [zeros64] pick
  rw [← laysP_next h, layP_one, layP_one, laysP_length hj, hf] at e
  simpa using e
theorem layP_length (ls : List (List UInt8)) (pick : List UInt8) : ∀ j, (layP ls pick j).length = 64
  | 0 => by simp [layP, laysP, crashF, zeros64]
  | j + 1 => by
    cases h : ls[j]? with
    | none =>
      have e : laysP ls (j + 1) = laysP ls j := by
        unfold laysP
        rw [List.take_of_length_le (by have := List.getElem?_eq_none_iff.1 h; omega), List.take_of_length_le (List.getElem?_eq_none_iff.1 h)]
      unfold layP
      rw [e]
      exact layP_length ls pick j
    | some b =>
      rw [layP_next h rfl]
      exact tear_length (fillP_length b) (layP_length ls pick j) (frontN_le _ _)
theorem tear_next {q : Nat} {new old : List UInt8} (h1 : new.length = 64) (h2 : old.length = 64) (hq : q < 64) : (tear q new old).set q (new[q]'(by omega)) = tear (q + 1) new old := by
  unfold tear
  have hl : (new.take q).length = q := by simp; omega
  rw [List.set_append_right _ _ (by omega), hl, Nat.sub_self, List.drop_eq_getElem_cons (show q < old.length by omega), List.set_cons_zero, List.take_succ_eq_append_getElem (show q < new.length by omega), List.append_assoc]
  rfl

set_option maxHeartbeats 12800000 in
theorem diskLayers_walk (w : World) {A : Option Addr} {c n : Nat} {l : List Row} (hn : l.length = n) (hs : Sl w A c (l.map Row.val)) (hr : ∀ r ∈ l, r.ok w) {A1 : Option Addr} {c1 m : Nat} {pick : List UInt8} (hm : pick.length = m) (hs1 : Sl w A1 c1 (bts pick)) :
    Calls Try.prog 8 #[.slice A n c, .slice A1 m c1] w fun e w' => e = .returned (.bool true) ∧ Mods Nil w w' := by
  by_cases h1 : 12 < n
  · have h1I : decide ((12 : Int) < (n : Int)) = true := by simp; omega
    clear hn hs hr hm hs1
    go_enter Try.func8, Try.ntmps8
    go_wp2_with (go_at_call 9; refine (awake6_any _).mono ?_; rintro e w1 ⟨rfl, m1⟩; have M1 := Lib.hid m1; clear m1)
    go_ret
    exact ⟨rfl, M1.out⟩
  have h1I : decide ((12 : Int) < (n : Int)) = false := by simp; omega
  obtain ⟨i0, hi, hz0, hz1, hz2⟩ := info_parts infoByte
  obtain ⟨ls, hls0⟩ : ∃ ls, l.map (·.xs) = ls := ⟨_, rfl⟩
  have hlsn : ls.length = n := by rw [← hls0]; simpa using hn
  have HN := Lib.hid hn
  have HL0 := Lib.hid hls0
  have HLN := Lib.hid hlsn
  have HS := Lib.hid hs
  have HR := Lib.hid hr
  have HM := Lib.hid hm
  have HP := Lib.hid hs1
  have hn12 : n ≤ 12 := by omega
  clear hn hs hr hm hs1 h1 hls0 hlsn
  go_enter Try.func8, Try.ntmps8
  go_wp2_with (first
    | (go_at_call 9; refine (awake6_any _).mono ?_; rintro e w1 ⟨rfl, m1⟩; have M1 := Lib.hid m1; clear m1)
    | (go_at_call 10; refine (lnew w1 (base := w.heap.size) (n := 1) M1.out.size (by omega) (by omega) (by omega)).mono ?_; rintro e w2 ⟨db, rfl, d2, m2⟩; have D2 : Hid (DiskAt w2 w.heap.size db (live [zeros64] [])) := d2; have M2 := Lib.hid (M1.out.trans m2); clear d2 m2)
    | (at_make; refine wpList_make_row _ rfl _ _ 34 rfl 5 i0 (.int .u8 0) Try.underlying34 hi hz0 hz1 rfl .i64 .i64 64 rfl rfl (by rw [hz2]; omega) (by omega) ?_; have B3 := Lib.hid (Blk.new w2 5 (madeCells #[.int .u8 0] 64)); have M3 := Lib.hid ((Mods.refl Nil w2).alloc (.cells (madeCells #[.int .u8 0] 64) 5)); generalize w2.alloc (.cells (madeCells #[.int .u8 0] 64) 5) = w3 at B3 M3 ⊢))
  have e0 : madeCells #[.int .u8 0] 64 = (bts zeros64).toArray := by
    apply Array.ext'
    rw [toList_madeCells_one]
    simp [zeros64, bts]
  rw [e0] at B3
  have D3 := Lib.hid (D2.out.nil M3.out)
  have M33 := Lib.hid (M2.out.trans M3.out)
  obtain ⟨gw, hgwe⟩ : ∃ gw, w2.heap.size = gw := ⟨_, rfl⟩
  have hgw : w.heap.size ≤ gw := by rw [← hgwe]; exact M2.out.size
  rw [hgwe] at B3 ⊢
  clear e0 hgwe
  go_loopw [9] (fun x wr => ∃ (j : Nat), j ≤ n ∧ x = .int .i64 (j : Int) ∧ DiskAt wr w.heap.size db (live [zeros64] (laysP ls j)) ∧ Blk wr gw 5 (bts (layP ls pick j)).toArray ∧ Mods Nil w wr) (fun x _ => n - (intOf x).toNat)
  case atStart => exact ⟨0, Nat.zero_le _, rfl, D3.out, B3.out, M33.out⟩
  case round =>
    obtain ⟨j, hj, rfl, hd, hb, hmo⟩ := hrel
    have HD := Lib.hid hd
    have HB := Lib.hid hb
    have HMO := Lib.hid hmo
    clear hd hb hmo
    by_cases hlt : j < n
    · have hltI : (j : Int) < (n : Int) := by omega
      have hj1 : j + 1 ≤ n := hlt
      have hjE : n - (j + 1) < n - j := by omega
      obtain ⟨b, off, r, rfl, hls, hrok, hcell⟩ := in6_at HN.out HL0.out (HS.out.mods HMO.out (fun _ _ h => h)) (fun r hr => (HR.out r hr).mods HMO.out) hlt
      obtain ⟨rl, hrl⟩ : ∃ rl, r.xs.length = rl := ⟨_, rfl⟩
      rw [hrl] at hcell
      by_cases h64 : 64 < rl
      · have h64I : decide ((64 : Int) < (rl : Int)) = true := by simp; omega
        clear hrok hrl
        go_wp2_with fail
        go_ret
        exact ⟨rfl, HMO.out⟩
      have h64I : decide ((64 : Int) < (rl : Int)) = false := by simp; omega
      have HRO := Lib.hid hrok
      have HRL := Lib.hid hrl
      have hW12 : (laysP ls j).length ≤ 1000 := by rw [laysP_length (by rw [HLN.out]; exact hj)]; omega
      have HWL := Lib.hid hW12
      obtain ⟨f, hf⟩ : ∃ f, frontN pick j = f := ⟨_, rfl⟩
      have hf64 : f ≤ 64 := by rw [← hf]; exact frontN_le _ _
      have HW : Hid (∀ W g, DiskAt W w.heap.size db (live [zeros64] (laysP ls j)) → Blk W g 5 (bts (fillP r.xs)).toArray → Calls Try.prog 13 #[.pointer (some ⟨db, 0, none⟩), .int .i64 0, .slice (some ⟨g, 0, none⟩) 64 64] W fun e w' => e = .returned (.int .i64 0) ∧ DiskAt w' w.heap.size db (live [zeros64] (laysP ls (j + 1))) ∧ DM w.heap.size W w') := Lib.hid (fun W g h hb => by rw [laysP_next hls]; exact lwrite h hW12 (i := 0) (by omega) (by simp) (Bs.blk hb (fillP_length _)) (fillP_length _) rfl)
      have HLS := Lib.hid hls
      clear hrok hrl h64 hW12 hls
      by_cases hjm : j < m
      · have hjmI : (j : Int) < (m : Int) := by omega
        have hjp : j < pick.length := by rw [HM.out]; exact hjm
        obtain ⟨bp, offp, rfl, -, hcp⟩ := (HP.out.mods HMO.out (fun _ _ h => h)).at_ (by simp; omega)
        have HCP := Lib.hid (bts_get pick j hjp)
        have hp := (pick[j]'hjp).toNat_lt
        have hrem := rem65 (pick[j]'hjp)
        have hfe : (pick[j]'hjp).toNat % 65 = f := by rw [← hf]; unfold frontN; simp [hjp]
        rw [hfe] at hrem
        have hw : IntKind.i64.wrap ((pick[j]'hjp).toNat : Int) = ((pick[j]'hjp).toNat : Int) := by rw [IntKind.wrap_i64]; omega
        have hw2 : IntKind.i64.wrap (f : Int) = (f : Int) := by rw [IntKind.wrap_i64]; omega
        generalize (pick[j]'hjp).toNat = y at *
        have HF := Lib.hid hf
        clear hcp hp hfe hf
        clear hjp
        go_wp2_with (first
          | (go_at_call 12; refine (filled_any HRO.out HRL.out false).mono ?_; rintro e w5 ⟨g5, rfl, b5, s5, m5⟩; have BF5 := Lib.hid b5; have hgg : g5 ≠ gw := (by have := HB.out.lt; omega); have BW5 := Lib.hid (HB.out.mods m5 (fun h => h)); have D5 := Lib.hid (HD.out.nil m5); have M5 := Lib.hid (HMO.out.trans m5); clear b5 s5 m5)
          | (go_at_call 13; refine (HW.out _ _ D5.out BF5.out).mono ?_; rintro e w6 ⟨rfl, d6, m6⟩; have D6 := Lib.hid d6; have B6 := Lib.hid (BF5.out.dm m6 (by decide)); have BW6 := Lib.hid (BW5.out.dm m6 (by decide)); have M6 := Lib.hid (DM.nilTrans M5.out (Nat.le_refl _) m6); have cp6 := (HP.out.mods M6.out (fun _ _ h => h)).cells j _ HCP.out; clear d6 m6))
        go_loopw [12] (fun x W => ∃ (q : Nat), q ≤ f ∧ x = .int .i64 (q : Int) ∧ Blk W gw 5 (bts (tear q (fillP r.xs) (layP ls pick j))).toArray ∧ Blk W g5 5 (bts (fillP r.xs)).toArray ∧ DiskAt W w.heap.size db (live [zeros64] (laysP ls (j + 1))) ∧ Mods Nil w W) (fun x _ => f - (intOf x).toNat)
        case atStart => exact ⟨0, Nat.zero_le _, rfl, by rw [tear_zero]; exact BW6.out, B6.out, D6.out, M6.out⟩
        case round =>
          obtain ⟨q, hq, rfl, hb1, hb2, hd, hmo⟩ := hrel
          have HB1 := Lib.hid hb1
          have HB2 := Lib.hid hb2
          have HD := Lib.hid hd
          have HMO := Lib.hid hmo
          clear hb1 hb2 hd hmo
          by_cases hlt : q < f
          · have hqI : (q : Int) < (f : Int) := by omega
            have hq64 : q < 64 := by omega
            have hq64I : (q : Int) < 64 := by omega
            have hfl := fillP_length r.xs
            have hll := layP_length ls pick j
            have hfq : q < (fillP r.xs).length := by omega
            have c1 := blk_byte HB2.out hfq
            have c2 := blk_byte HB1.out (j := q) (by rw [tear_length hfl hll (by omega)]; exact hq64)
            replace c2 : ∃ v, wr.cell? ⟨gw, q, none⟩ = some v := ⟨_, c2⟩
            obtain ⟨v2, c2⟩ := c2
            have f2 := HB1.out.frozen q
            have hb3 := HB1.out.set_ q (.int .u8 (((fillP r.xs)[q]'hfq).toNat : Int))
            rw [bts_set, tear_next hfl hll hq64] at hb3
            have HB3 := Lib.hid hb3
            have HB4 := Lib.hid (HB2.out.far (p := ⟨gw, q, none⟩) hgg (.int .u8 (((fillP r.xs)[q]'hfq).toNat : Int)))
            have HD3 := Lib.hid (HD.out.setByte HB1.out q (.int .u8 (((fillP r.xs)[q]'hfq).toNat : Int)))
            have HM3 := Lib.hid (HMO.out.setNew (p := ⟨gw, q, none⟩) hgw (.int .u8 (((fillP r.xs)[q]'hfq).toNat : Int)))
            have hE : f - (q + 1) < f - q := by omega
            generalize ((fillP r.xs)[q]'hfq).toNat = y2 at *
            clear hb3 hfl hll
            clear hfq
            go_wp2_with fail
            exact ⟨⟨q + 1, hlt, by go_num, HB3.out, HB4.out, HD3.out, HM3.out⟩, by simp [intOf]; omega⟩
          · obtain rfl : q = f := by omega
            have hb4 := HB1.out
            rw [← layP_next HLS.out HF.out] at hb4
            have HB4 := Lib.hid hb4
            clear hb4
            go_wp2_with fail
            exact ⟨⟨j + 1, hj1, by go_num, HD.out, HB4.out, HMO.out⟩, by simp [intOf]; omega⟩
      · have hjmI : decide ((j : Int) < (m : Int)) = false := by simp; omega
        obtain rfl : f = 0 := by
          rw [← hf]
          unfold frontN
          simp [List.getElem?_eq_none (show pick.length ≤ j by rw [HM.out]; omega)]
        have HF := Lib.hid hf
        clear hf
        go_wp2_with (first
          | (go_at_call 12; refine (filled_any HRO.out HRL.out false).mono ?_; rintro e w5 ⟨g5, rfl, b5, s5, m5⟩; have BF5 := Lib.hid b5; have hgg : g5 ≠ gw := (by have := HB.out.lt; omega); have BW5 := Lib.hid (HB.out.mods m5 (fun h => h)); have D5 := Lib.hid (HD.out.nil m5); have M5 := Lib.hid (HMO.out.trans m5); clear b5 s5 m5)
          | (go_at_call 13; refine (HW.out _ _ D5.out BF5.out).mono ?_; rintro e w6 ⟨rfl, d6, m6⟩; have D6 := Lib.hid d6; have B6 := Lib.hid (BF5.out.dm m6 (by decide)); have BW6 := Lib.hid (BW5.out.dm m6 (by decide)); have M6 := Lib.hid (DM.nilTrans M5.out (Nat.le_refl _) m6); clear d6 m6))
        go_loopw [12] (fun x W => x = .int .i64 0 ∧ W = w6) (fun x _ => 0)
        case atStart => exact ⟨rfl, rfl⟩
        case round =>
          obtain ⟨rfl, rfl⟩ := hrel
          have hb4 := BW6.out
          rw [← tear_zero (fillP r.xs) (layP ls pick j), ← layP_next HLS.out HF.out] at hb4
          have HB4 := Lib.hid hb4
          clear hb4
          go_wp2_with fail
          exact ⟨⟨j + 1, hj1, by go_num, D6.out, HB4.out, M6.out⟩, by simp [intOf]; omega⟩
    · obtain rfl : j = n := by omega
      obtain ⟨Z, hZ⟩ : ∃ Z, layP ls pick j = Z := ⟨_, rfl⟩
      have hZl : Z.length = 64 := by rw [← hZ]; exact layP_length _ _ _
      have hcr : crashL [zeros64] (laysP ls j) pick = [Z] := by rw [← crashF_eq, layP_one, hZ]
      rw [hZ] at HB
      have HC : Hid (∀ W, Mods Nil w W → DiskAt W w.heap.size db (live [zeros64] (laysP ls j)) → Calls Try.prog 19 #[.pointer (some ⟨db, 0, none⟩), .slice A1 m c1] W fun e w' => e = .returned (.tuple #[]) ∧ DiskAt w' w.heap.size db (live [Z] []) ∧ DM w.heap.size W w') := Lib.hid (fun W hW h => by
        have := lcrash h ((Bs.arg (base := w.heap.size) HP.out (Nat.le_refl _)).nil hW) HM.out
        rw [hcr] at this
        exact this)
      have HRD : Hid (∀ W, DiskAt W w.heap.size db (live [Z] []) → Calls Try.prog 23 #[.pointer (some ⟨db, 0, none⟩), .int .i64 0] W fun e w' => ∃ A c m, e = .returned (.tuple #[.slice A m c, .int .i64 0]) ∧ Z.length = m ∧ m = 64 ∧ Sl w' A c (bts Z) ∧ Mods Nil W w') := Lib.hid (fun W h => lread h (by omega) (by simp) rfl)
      have HZL := Lib.hid hZl
      clear hcr hZ hlt
      go_wp2_with (first
        | (go_at_call 19; refine (HC.out _ HMO.out HD.out).mono ?_; rintro e w7 ⟨rfl, d7, m7⟩; have D7 := Lib.hid d7; have B7 := Lib.hid (HB.out.dm m7 (by decide)); have M7 := Lib.hid (DM.nilTrans HMO.out (Nat.le_refl _) m7); clear d7 m7)
        | (go_at_call 23; refine (HRD.out _ D7.out).mono ?_; rintro e w8 ⟨A8, c8, m8, rfl, h8, rfl, s8, k8⟩; have D8 := Lib.hid (D7.out.nil k8); have B8 := Lib.hid (B7.out.mods k8 (fun h => h)); have v1 := conv6 h8 s8; have v2 := conv6 hZl (Bs.blk (base := 0) B8.out hZl).1; have M8 := Lib.hid (M7.out.trans k8); clear s8 k8 h8)
        | (go_at_call 15; refine (lsync D8.out).mono ?_; rintro e w9 ⟨rfl, d9, m9⟩; have M9 := Lib.hid (DM.nilTrans M8.out (Nat.le_refl _) m9); clear d9 m9))
      go_ret
      exact ⟨rfl, M9.out⟩
end Go.Proofs.Ytahahnapnfalcaa
