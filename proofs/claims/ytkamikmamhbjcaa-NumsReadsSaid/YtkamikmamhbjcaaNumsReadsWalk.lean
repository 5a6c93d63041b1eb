/- NumsReads's walk. -/
import Derived.Test.YtkamikmamhbjcaaRef3
import Derived.Test.YtkamikmamhbjcaaAwake1
import Derived.Test.YtkamikmamhbjcaaOpen
import Derived.Deep.RegionHeld
namespace Go.Proofs.Ytkamikmamhbjcaa
open Go.RowKit
set_option linter.unusedVariables false

/-- The reference and the reader say the same. -/
theorem same_uint {err : Int} {Bs zs : List UInt8} (h : err = 0 → Bs = zs) : (readUint err Bs).1 = (readUint err zs).1 ∧ (readUint err Bs).2.2 = (readUint err zs).2.2 ∧ ((readUint err zs).1 = 0 → (readUint err Bs).2.1 = (readUint err zs).2.1) := by
  by_cases he : err = 0
  · rw [h he]; exact ⟨rfl, rfl, fun _ => rfl⟩
  · rw [readUint_err' he, readUint_err' he]; exact ⟨rfl, rfl, fun h => absurd h he⟩
theorem same_raw {err : Int} {Bs zs : List UInt8} (n : Int) (h : err = 0 → Bs = zs) : (readRaw err Bs n).1 = (readRaw err zs n).1 ∧ (readRaw err Bs n).2.2 = (readRaw err zs n).2.2 ∧ ((readRaw err zs n).1 = 0 → (readRaw err Bs n).2.1 = (readRaw err zs n).2.1) := by
  by_cases he : err = 0
  · rw [h he]; exact ⟨rfl, rfl, fun _ => rfl⟩
  · rw [readRaw_err' he, readRaw_err' he]; exact ⟨rfl, rfl, fun h => absurd h he⟩
theorem same_bytes {err : Int} {Bs zs : List UInt8} (n : Int) (h : err = 0 → Bs = zs) : (readBytes err Bs n).1 = (readBytes err zs n).1 ∧ (readBytes err Bs n).2.2 = (readBytes err zs n).2.2 ∧ ((readBytes err zs n).1 = 0 → (readBytes err Bs n).2.1 = (readBytes err zs n).2.1) := by
  by_cases he : err = 0
  · rw [h he]; exact ⟨rfl, rfl, fun _ => rfl⟩
  · unfold readBytes
    rw [readUint_err' he, readUint_err' he]
    simp only
    rw [if_pos he, if_pos he]
    exact ⟨rfl, rfl, fun h => absurd h he⟩
theorem readRaw_le' (err : Int) (xs : List UInt8) (n : Int) : (readRaw err xs n).2.1.length ≤ xs.length := by
  unfold readRaw
  repeat' split
  all_goals simp
theorem readBytes_le (err : Int) (xs : List UInt8) (n : Int) : (readBytes err xs n).2.1.length ≤ xs.length := by
  unfold readBytes
  have h := readUint_le xs err
  split
  · exact h
  · split
    · simp
    · exact Nat.le_trans (readRaw_le' _ _ _) h

set_option maxRecDepth 100000 in
set_option maxHeartbeats 6400000 in
theorem numsReads_walk (w : World) {A : Option Addr} {c n : Nat} {xs : List UInt8} (hn : xs.length = n) (hs : Sl w A c (bts xs)) {A2 : Option Addr} {c2 n2 : Nat} {ys : List UInt8} (hn2 : ys.length = n2) (hs2 : Sl w A2 c2 (bts ys)) :
    Calls Try.prog 4 #[.slice A n c, .slice A2 n2 c2] w fun e w' => e = .returned (.bool true) ∧ Mods Nil w w' := by
  have hmx := hs.max
  have hle := hs.le
  have hmx2 := hs2.max
  have hle2 := hs2.le
  unfold maxLen at hmx hmx2
  rw [bts_length] at hle hle2
  by_cases hbig : 300 < n
  · have hb : decide ((300 : Int) < (n : Int)) = true := by simp; omega
    clear hs hs2
    go_enter Try.func4, Try.ntmps4
    go_wp2_with (first | (go_at_call 9; refine (awake_any _).mono ?_; rintro e w1 ⟨rfl, m1⟩; have M1 := Lib.hid m1; clear m1))
    go_ret
    exact ⟨rfl, M1.out⟩
  · have hb : decide ((300 : Int) < (n : Int)) = false := by simp; omega
    by_cases hbig2 : 60 < n2
    · have hb2 : (60 : Int) < (n2 : Int) := by omega
      clear hs hs2
      go_enter Try.func4, Try.ntmps4
      go_wp2_with (first | (go_at_call 9; refine (awake_any _).mono ?_; rintro e w1 ⟨rfl, m1⟩; have M1 := Lib.hid m1; clear m1))
      go_ret
      exact ⟨rfl, M1.out⟩
    · have hb2 : ¬ (60 : Int) < (n2 : Int) := by omega
      have HS := Lib.hid hs
      have HN := Lib.hid hn
      have HS2 := Lib.hid hs2
      have HN2 := Lib.hid hn2
      have kcB : ∀ W : World, Mods Nil w W → (convert 23 9 (.slice A n c)).run Try.prog W = .ok (.string (strOf xs)) W := fun W hW => run_string_sl W 23 5 Try.underlying23 Try.underlying5 A n c _ HN.out (HS.out.mods hW (fun _ _ h => h)) 9 Try.underlying9
      clear hs hs2 hn hn2
      go_enter Try.func4, Try.ntmps4
      go_wp2_with (first
        | (go_at_call 9; refine (awake_any _).mono ?_; rintro e w1 ⟨rfl, m1⟩; have M1 := Lib.hid m1; clear m1)
        | (go_at_call 17; refine (newReader_any HN.out (by have := HN.out; omega) (HS.out.mods M1.out (fun _ _ h => h))).mono ?_; rintro e w2 ⟨g, k, rfl, h2, g2, k2, m2⟩; have H2 := Lib.hid h2; have G2 := Lib.hid (Nat.le_trans M1.out.size g2); have K2 := Lib.hid k2; have M2 := M1.out.trans m2; clear h2 g2 k2 m2))
      clear kcB
      obtain ⟨Bx, hBx⟩ : ∃ Bx, Bx = w2.heap.size := ⟨_, rfl⟩
      have hwB : w.heap.size ≤ Bx := by rw [hBx]; exact M2.size
      have hb0 : Blk (w2.alloc (.cells #[.string (strOf xs), .int .i64 0] 38)) Bx 38 #[.string (strOf xs), .int .i64 0] := by rw [hBx]; exact Blk.new _ _ _
      have hgB : g ≠ Bx := by have := H2.out.lt; omega
      have hkB : ∀ q, k = some q → q ≠ Bx := fun q hq => by have := (K2.out q hq).2; omega
      rw [← hBx]
      have HB0 := Lib.hid hb0
      have HWB := Lib.hid hwB
      have HGB := Lib.hid hgB
      have HKB := Lib.hid hkB
      have M2' := Lib.hid M2
      clear hb0 hwB hgB hkB hBx M2
      go_loopw [8] (fun i wr => ∃ (j : Nat) (err : Int) (zs Bs : List UInt8), j ≤ n2 ∧ i = .int .i64 j ∧ IsReader wr g k err zs ∧ zs.length ≤ 300 ∧ Blk wr Bx 38 #[.string (strOf Bs), .int .i64 err] ∧ (err = 0 → Bs = zs) ∧ Bs.length ≤ 300 ∧ Mods Nil w wr) (fun i _ => n2 - (intOf i).toNat)
      case atStart => exact ⟨0, 0, xs, xs, Nat.zero_le _, rfl, H2.out.mods (S := Nil) ((Mods.refl _ _).alloc _) (fun h => h) (fun _ _ h => h), by have := HN.out; omega, HB0.out, fun _ => rfl, by have := HN.out; omega, M2'.out.alloc _⟩
      case round =>
        obtain ⟨j, err, zs, Bs, hj, rfl, hr, hzl, hbx, hsame, hbl, hmo⟩ := hrel
        have HR := Lib.hid hr
        have HM := Lib.hid hmo
        have HBX := Lib.hid hbx
        have HSA := Lib.hid hsame
        obtain ⟨a0, a1, a2, a3⟩ := hbx.two
        clear hr hmo hbx hsame
        by_cases hlt : j < n2
        · have hjl : j < ys.length := by have := HN2.out; omega
          have hs3 := HS2.out.mods HM.out (fun _ _ h => h)
          obtain ⟨b, off, rfl, hb4, hcell⟩ := hs3.at_ (by simp; omega)
          have hc1 : wr.cell? ⟨b, off + j, none⟩ = some (.int .u8 (ys[j].toNat : Int)) := hcell _ _ (bts_get ys j hjl)
          obtain ⟨y, hy⟩ : ∃ y, y = ys[j].toNat := ⟨_, rfl⟩
          rw [← hy] at hc1
          have hy2 : y ≤ 255 := by have := ys[j].toNat_lt; omega
          clear hy hcell hs3 hjl
          by_cases h0 : (bits .and .u8 (y : Int) 3 == 0) = true
          · skip
            obtain ⟨⟨e1, zs1, X⟩, hRU⟩ : ∃ R, readUint err zs = R := ⟨_, rfl⟩
            have hl1 : zs1.length ≤ 300 := by have := readUint_le zs err; rw [hRU] at this; simp only at this; omega
            have hsa := same_uint HSA.out
            rw [hRU] at hsa
            have SA1 := Lib.hid hsa.1
            have SA2 := Lib.hid hsa.2.1
            have SA3 := Lib.hid hsa.2.2
            have HRU := Lib.hid hRU
            have HL1 := Lib.hid hl1
            clear hRU hl1 hsa
            go_wp2_with (first
              | (go_at_call 18; refine (uint_any (by omega) (HR.out.alloc' _)).mono ?_; rintro e w3 ⟨he3, h3, m3⟩; simp only [HRU.out] at he3 h3; subst he3; have H3 := Lib.hid h3; have HM3 := Lib.hid ((HM.out.alloc _).nil_trans m3 (fun i hi => by subst hi; exact G2.out)); have hB3 := (HBX.out.alloc _).mods m3 (fun h => HGB.out h.symm); have HB3 := Lib.hid hB3; obtain ⟨p0, p1, p2, p3⟩ := hB3.two; clear h3 m3 hB3)
              | (go_at_call 19; refine (rread_any _ Bs err (by omega)).mono ?_; rintro e w4 ⟨B4, he4, hb4, hl4, m4⟩; rw [SA1.out] at hb4; rw [SA1.out, SA2.out] at he4; unfold refOf at he4; subst he4; have HBZ : Hid (e1 = 0 → B4 = zs1) := (fun h => (hb4 h).trans (SA3.out h)); have H4 := Lib.hid (H3.out.mods m4 (fun h => h) (fun _ _ h => h)); have HM4 := Lib.hid (HM3.out.trans m4); have hB4 := HB3.out.mods m4 (fun h => h); have HB4 := Lib.hid hB4; have HL4 := Lib.hid hl4; obtain ⟨q0, q1, q2, q3⟩ := hB4.two; clear hb4 hl4 m4 hB4))
            obtain ⟨w5, hw5⟩ : ∃ w5, w5 = ((w4.setCell ⟨Bx, 0, none⟩ (.string (strOf B4))).setCell ⟨Bx, 1, none⟩ (.int .i64 e1)) := ⟨_, rfl⟩
            rw [← hw5]
            have hB5 : Blk w5 Bx 38 #[.string (strOf B4), .int .i64 e1] := by rw [hw5]; exact set_one HB4.out _ _
            have m45 : Mods (· = Bx) w4 w5 := by rw [hw5]; exact ((Mods.refl (· = Bx) w4).setCell (fun _ => rfl) _).setCell (fun _ => rfl) _
            have hR5 : IsReader w5 g k e1 zs1 := H4.out.mods m45 HGB.out (fun q hq => HKB.out q hq)
            have hM5 : Mods Nil w w5 := HM4.out.nil_trans m45 (fun i hi => by subst hi; exact HWB.out)
            have HB5 := Lib.hid hB5
            have HR5 := Lib.hid hR5
            have HM5 := Lib.hid hM5
            obtain ⟨f0, f1, _, _⟩ := hB5.two
            obtain ⟨EV, hEV⟩ : ∃ EV : Int, (if e1 = 0 then (if zs1 = [] then (0 : Int) else 12) else e1) = EV := ⟨_, rfl⟩
            have HEV1 := Lib.hid hEV
            have HEV2 : Hid ((if e1 = 0 then (if B4 = [] then (0 : Int) else 12) else e1) = EV) := by
              show _ = _
              rw [← hEV]
              by_cases he1 : e1 = 0
              · rw [if_pos he1, if_pos he1, HBZ.out he1]
              · rw [if_neg he1, if_neg he1]
            have M45 := Lib.hid m45
            have kc0 : ∀ (W : World) (a : Addr), (convert 23 9 (.slice (some a) 0 0)).run Try.prog W = .ok (.string ⟨#[]⟩) W := fun W a => run_string_sl W 23 5 Try.underlying23 Try.underlying5 (some a) 0 0 [] rfl (Sl.empty W a) 9 Try.underlying9
            clear hw5 hB5 hR5 hM5 hEV m45
            go_region_held (fun W => W.cell? ⟨Bx, 0, none⟩ = some (.string (strOf B4)) ∧ W.cell? ⟨Bx, 1, none⟩ = some (.int .i64 e1) ∧ Mods Nil w5 W) (first | exact ⟨f0, f1, (Mods.refl Nil w5).drew⟩ | assumption) (first
              | (go_at_call 24; refine (err_any (HR5.out.mods (S := Nil) (by first | exact (Mods.refl Nil w5).drew | (refine And.right (And.right ?_); assumption)) (fun h => h) (fun _ _ h => h))).mono ?_; rintro e w6 ⟨rfl, rfl⟩)
              | (go_at_call 25; refine (end_any (HR5.out.mods (S := Nil) (by first | exact (Mods.refl Nil w5).drew | (refine And.right (And.right ?_); assumption)) (fun h => h) (fun _ _ h => h))).mono ?_; rintro e w7 ⟨he7, rfl⟩; rw [HEV1.out] at he7; subst he7)
              | (go_at_call 26; refine (rend_any _ B4 e1).mono ?_; rintro e w9 ⟨he9, m9⟩; rw [HEV2.out] at he9; subst he9; have hq9 : Mods Nil w5 w9 := Mods.trans (by first | exact (Mods.refl Nil w5).drew | (refine And.right (And.right ?_); assumption)) m9; have hB9 := HB5.out.mods hq9 (fun h => h); have HB9 := Lib.hid hB9; have HQ9 := Lib.hid hq9; have hS9 : w9.cell? ⟨Bx, 0, none⟩ = some (.string (strOf B4)) ∧ w9.cell? ⟨Bx, 1, none⟩ = some (.int .i64 e1) ∧ Mods Nil w5 w9 := ⟨hB9.two.1, hB9.two.2.1, hq9⟩; clear m9 hB9 hq9))
            all_goals
              go_wp2
              exact ⟨⟨j + 1, e1, zs1, B4, by omega, by go_num, HR5.out.mods HQ9.out (fun h => h) (fun _ _ h => h), HL1.out, HB9.out, HBZ.out, Nat.le_trans HL4.out hbl, HM5.out.trans HQ9.out⟩, by simp [intOf]; omega⟩
          · have h0' : (bits .and .u8 (y : Int) 3 == 0) = false := by simpa using h0
            clear h0
            by_cases h1 : (bits .and .u8 (y : Int) 3 == 1) = true
            · skip
              obtain ⟨⟨e1, zs1, X⟩, hRU⟩ : ∃ R, readUint err zs = R := ⟨_, rfl⟩
              have hl1 : zs1.length ≤ 300 := by have := readUint_le zs err; rw [hRU] at this; simp only at this; omega
              have hsa := same_uint HSA.out
              rw [hRU] at hsa
              have SA1 := Lib.hid hsa.1
              have SA2 := Lib.hid hsa.2.1
              have SA3 := Lib.hid hsa.2.2
              have HRU := Lib.hid hRU
              have HL1 := Lib.hid hl1
              clear hRU hl1 hsa
              go_wp2_with (first
                | (go_at_call 18; refine (uint_any (by omega) (HR.out.alloc' _)).mono ?_; rintro e w3 ⟨he3, h3, m3⟩; simp only [HRU.out] at he3 h3; subst he3; have H3 := Lib.hid h3; have HM3 := Lib.hid ((HM.out.alloc _).nil_trans m3 (fun i hi => by subst hi; exact G2.out)); have hB3 := (HBX.out.alloc _).mods m3 (fun h => HGB.out h.symm); have HB3 := Lib.hid hB3; obtain ⟨p0, p1, p2, p3⟩ := hB3.two; clear h3 m3 hB3)
                | (go_at_call 19; refine (rread_any _ Bs err (by omega)).mono ?_; rintro e w4 ⟨B4, he4, hb4, hl4, m4⟩; rw [SA1.out] at hb4; rw [SA1.out, SA2.out] at he4; unfold refOf at he4; subst he4; have HBZ : Hid (e1 = 0 → B4 = zs1) := (fun h => (hb4 h).trans (SA3.out h)); have H4 := Lib.hid (H3.out.mods m4 (fun h => h) (fun _ _ h => h)); have HM4 := Lib.hid (HM3.out.trans m4); have hB4 := HB3.out.mods m4 (fun h => h); have HB4 := Lib.hid hB4; have HL4 := Lib.hid hl4; obtain ⟨q0, q1, q2, q3⟩ := hB4.two; clear hb4 hl4 m4 hB4))
              obtain ⟨w5, hw5⟩ : ∃ w5, w5 = ((w4.setCell ⟨Bx, 0, none⟩ (.string (strOf B4))).setCell ⟨Bx, 1, none⟩ (.int .i64 e1)) := ⟨_, rfl⟩
              rw [← hw5]
              have hB5 : Blk w5 Bx 38 #[.string (strOf B4), .int .i64 e1] := by rw [hw5]; exact set_one HB4.out _ _
              have m45 : Mods (· = Bx) w4 w5 := by rw [hw5]; exact ((Mods.refl (· = Bx) w4).setCell (fun _ => rfl) _).setCell (fun _ => rfl) _
              have hR5 : IsReader w5 g k e1 zs1 := H4.out.mods m45 HGB.out (fun q hq => HKB.out q hq)
              have hM5 : Mods Nil w w5 := HM4.out.nil_trans m45 (fun i hi => by subst hi; exact HWB.out)
              have HB5 := Lib.hid hB5
              have HR5 := Lib.hid hR5
              have HM5 := Lib.hid hM5
              obtain ⟨f0, f1, _, _⟩ := hB5.two
              obtain ⟨EV, hEV⟩ : ∃ EV : Int, (if e1 = 0 then (if zs1 = [] then (0 : Int) else 12) else e1) = EV := ⟨_, rfl⟩
              have HEV1 := Lib.hid hEV
              have HEV2 : Hid ((if e1 = 0 then (if B4 = [] then (0 : Int) else 12) else e1) = EV) := by
                show _ = _
                rw [← hEV]
                by_cases he1 : e1 = 0
                · rw [if_pos he1, if_pos he1, HBZ.out he1]
                · rw [if_neg he1, if_neg he1]
              have M45 := Lib.hid m45
              have kc0 : ∀ (W : World) (a : Addr), (convert 23 9 (.slice (some a) 0 0)).run Try.prog W = .ok (.string ⟨#[]⟩) W := fun W a => run_string_sl W 23 5 Try.underlying23 Try.underlying5 (some a) 0 0 [] rfl (Sl.empty W a) 9 Try.underlying9
              clear hw5 hB5 hR5 hM5 hEV m45
              go_region_held (fun W => W.cell? ⟨Bx, 0, none⟩ = some (.string (strOf B4)) ∧ W.cell? ⟨Bx, 1, none⟩ = some (.int .i64 e1) ∧ Mods Nil w5 W) (first | exact ⟨f0, f1, (Mods.refl Nil w5).drew⟩ | assumption) (first
                | (go_at_call 24; refine (err_any (HR5.out.mods (S := Nil) (by first | exact (Mods.refl Nil w5).drew | (refine And.right (And.right ?_); assumption)) (fun h => h) (fun _ _ h => h))).mono ?_; rintro e w6 ⟨rfl, rfl⟩)
                | (go_at_call 25; refine (end_any (HR5.out.mods (S := Nil) (by first | exact (Mods.refl Nil w5).drew | (refine And.right (And.right ?_); assumption)) (fun h => h) (fun _ _ h => h))).mono ?_; rintro e w7 ⟨he7, rfl⟩; rw [HEV1.out] at he7; subst he7)
                | (go_at_call 26; refine (rend_any _ B4 e1).mono ?_; rintro e w9 ⟨he9, m9⟩; rw [HEV2.out] at he9; subst he9; have hq9 : Mods Nil w5 w9 := Mods.trans (by first | exact (Mods.refl Nil w5).drew | (refine And.right (And.right ?_); assumption)) m9; have hB9 := HB5.out.mods hq9 (fun h => h); have HB9 := Lib.hid hB9; have HQ9 := Lib.hid hq9; have hS9 : w9.cell? ⟨Bx, 0, none⟩ = some (.string (strOf B4)) ∧ w9.cell? ⟨Bx, 1, none⟩ = some (.int .i64 e1) ∧ Mods Nil w5 w9 := ⟨hB9.two.1, hB9.two.2.1, hq9⟩; clear m9 hB9 hq9))
              all_goals
                go_wp2
                exact ⟨⟨j + 1, e1, zs1, B4, by omega, by go_num, HR5.out.mods HQ9.out (fun h => h) (fun _ _ h => h), HL1.out, HB9.out, HBZ.out, Nat.le_trans HL4.out hbl, HM5.out.trans HQ9.out⟩, by simp [intOf]; omega⟩
            · have h1' : (bits .and .u8 (y : Int) 3 == 1) = false := by simpa using h1
              clear h1
              by_cases h2 : (bits .and .u8 (y : Int) 3 == 2) = true
              · skip
                obtain ⟨⟨e1, zs1, T⟩, hRU⟩ : ∃ R, readBytes err zs ((y : Int) / 4 - 1) = R := ⟨_, rfl⟩
                have hl1 : zs1.length ≤ 300 := by have := readBytes_le err zs ((y : Int) / 4 - 1); rw [hRU] at this; simp only at this; omega
                have hsa := same_bytes ((y : Int) / 4 - 1) HSA.out
                rw [hRU] at hsa
                have SA1 := Lib.hid hsa.1
                have SA2 := Lib.hid hsa.2.1
                have SA3 := Lib.hid hsa.2.2
                have HRU := Lib.hid hRU
                have HL1 := Lib.hid hl1
                obtain ⟨L, hL⟩ : ∃ L, T.length = L := ⟨_, rfl⟩
                have HTL := Lib.hid hL
                have hBw := HBX.out.lt
                clear hRU hl1 hsa hL
                go_wp2_with (first
                  | (go_at_call 20; refine (bytes_any _ (by omega) (by omega) (HR.out.alloc' _)).mono ?_; rintro e w3 ⟨A3, c3, he3, s3, f3, h3, m3⟩; simp only [HRU.out] at he3 s3 f3 h3; rw [HTL.out] at he3; subst he3; have H3 := Lib.hid h3; have S3 := Lib.hid s3; have F3 := Lib.hid f3; have HM3 := Lib.hid ((HM.out.alloc _).nil_trans m3 (fun i hi => by subst hi; exact G2.out)); have hB3 := (HBX.out.alloc _).mods m3 (fun h => HGB.out h.symm); have HB3 := Lib.hid hB3; obtain ⟨p0, p1, p2, p3⟩ := hB3.two; clear h3 m3 hB3 s3 f3)
                  | (go_at_call 21; refine (rbytesr_any _ Bs err _ (by omega) (by omega)).mono ?_; rintro e w4 ⟨B4, he4, hb4, hl4, m4⟩; rw [SA1.out] at hb4; rw [SA1.out, SA2.out] at he4; unfold refOf at he4; subst he4; have HBZ : Hid (e1 = 0 → B4 = zs1) := (fun h => (hb4 h).trans (SA3.out h)); have H4 := Lib.hid (H3.out.mods m4 (fun h => h) (fun _ _ h => h)); have HM4 := Lib.hid (HM3.out.trans m4); have S4 := Lib.hid (S3.out.mods m4 (fun _ _ h => h)); have hB4 := HB3.out.mods m4 (fun h => h); have HB4 := Lib.hid hB4; have HL4 := Lib.hid hl4; obtain ⟨q0, q1, q2, q3⟩ := hB4.two; clear hb4 hl4 m4 hB4))
                obtain ⟨w5, hw5⟩ : ∃ w5, w5 = ((w4.setCell ⟨Bx, 0, none⟩ (.string (strOf B4))).setCell ⟨Bx, 1, none⟩ (.int .i64 e1)) := ⟨_, rfl⟩
                rw [← hw5]
                have hB5 : Blk w5 Bx 38 #[.string (strOf B4), .int .i64 e1] := by rw [hw5]; exact set_one HB4.out _ _
                have m45 : Mods (· = Bx) w4 w5 := by rw [hw5]; exact ((Mods.refl (· = Bx) w4).setCell (fun _ => rfl) _).setCell (fun _ => rfl) _
                have hR5 : IsReader w5 g k e1 zs1 := H4.out.mods m45 HGB.out (fun q hq => HKB.out q hq)
                have hM5 : Mods Nil w w5 := HM4.out.nil_trans m45 (fun i hi => by subst hi; exact HWB.out)
                have HB5 := Lib.hid hB5
                have HR5 := Lib.hid hR5
                have HM5 := Lib.hid hM5
                obtain ⟨f0, f1, _, _⟩ := hB5.two
                obtain ⟨EV, hEV⟩ : ∃ EV : Int, (if e1 = 0 then (if zs1 = [] then (0 : Int) else 12) else e1) = EV := ⟨_, rfl⟩
                have HEV1 := Lib.hid hEV
                have HEV2 : Hid ((if e1 = 0 then (if B4 = [] then (0 : Int) else 12) else e1) = EV) := by
                  show _ = _
                  rw [← hEV]
                  by_cases he1 : e1 = 0
                  · rw [if_pos he1, if_pos he1, HBZ.out he1]
                  · rw [if_neg he1, if_neg he1]
                have M45 := Lib.hid m45
                have kcO : ∀ W : World, Mods Nil w5 W → (convert 23 9 (.slice A3 L c3)).run Try.prog W = .ok (.string (strOf T)) W := fun W hW => run_string_sl W 23 5 Try.underlying23 Try.underlying5 A3 L c3 T HTL.out ((S4.out.mods' M45.out (fun hx => F3.out.off hx (fun q hq => by subst hq; simp; omega))).mods hW (fun _ _ h => h)) 9 Try.underlying9
                clear hw5 hB5 hR5 hM5 hEV m45
                go_region_held (fun W => W.cell? ⟨Bx, 0, none⟩ = some (.string (strOf B4)) ∧ W.cell? ⟨Bx, 1, none⟩ = some (.int .i64 e1) ∧ Mods Nil w5 W) (first | exact ⟨f0, f1, (Mods.refl Nil w5).drew⟩ | assumption) (first
                  | (go_at_call 24; refine (err_any (HR5.out.mods (S := Nil) (by first | exact (Mods.refl Nil w5).drew | (refine And.right (And.right ?_); assumption)) (fun h => h) (fun _ _ h => h))).mono ?_; rintro e w6 ⟨rfl, rfl⟩)
                  | (go_at_call 25; refine (end_any (HR5.out.mods (S := Nil) (by first | exact (Mods.refl Nil w5).drew | (refine And.right (And.right ?_); assumption)) (fun h => h) (fun _ _ h => h))).mono ?_; rintro e w7 ⟨he7, rfl⟩; rw [HEV1.out] at he7; subst he7)
                  | (go_at_call 26; refine (rend_any _ B4 e1).mono ?_; rintro e w9 ⟨he9, m9⟩; rw [HEV2.out] at he9; subst he9; have hq9 : Mods Nil w5 w9 := Mods.trans (by first | exact (Mods.refl Nil w5).drew | (refine And.right (And.right ?_); assumption)) m9; have hB9 := HB5.out.mods hq9 (fun h => h); have HB9 := Lib.hid hB9; have HQ9 := Lib.hid hq9; have hS9 : w9.cell? ⟨Bx, 0, none⟩ = some (.string (strOf B4)) ∧ w9.cell? ⟨Bx, 1, none⟩ = some (.int .i64 e1) ∧ Mods Nil w5 w9 := ⟨hB9.two.1, hB9.two.2.1, hq9⟩; clear m9 hB9 hq9))
                all_goals
                  go_wp2
                  exact ⟨⟨j + 1, e1, zs1, B4, by omega, by go_num, HR5.out.mods HQ9.out (fun h => h) (fun _ _ h => h), HL1.out, HB9.out, HBZ.out, Nat.le_trans HL4.out hbl, HM5.out.trans HQ9.out⟩, by simp [intOf]; omega⟩
              · have h2' : (bits .and .u8 (y : Int) 3 == 2) = false := by simpa using h2
                clear h2
                obtain ⟨⟨e1, zs1, T⟩, hRU⟩ : ∃ R, readRaw err zs ((y : Int) / 4 - 1) = R := ⟨_, rfl⟩
                have hl1 : zs1.length ≤ 300 := by have := readRaw_le' err zs ((y : Int) / 4 - 1); rw [hRU] at this; simp only at this; omega
                have hsa := same_raw ((y : Int) / 4 - 1) HSA.out
                rw [hRU] at hsa
                have SA1 := Lib.hid hsa.1
                have SA2 := Lib.hid hsa.2.1
                have SA3 := Lib.hid hsa.2.2
                have HRU := Lib.hid hRU
                have HL1 := Lib.hid hl1
                obtain ⟨L, hL⟩ : ∃ L, T.length = L := ⟨_, rfl⟩
                have HTL := Lib.hid hL
                have hBw := HBX.out.lt
                clear hRU hl1 hsa hL
                go_wp2_with (first
                  | (go_at_call 22; refine (raw_any _ (by omega) (HR.out.alloc' _)).mono ?_; rintro e w3 ⟨A3, c3, he3, s3, f3, h3, m3⟩; simp only [HRU.out] at he3 s3 f3 h3; rw [HTL.out] at he3; subst he3; have H3 := Lib.hid h3; have S3 := Lib.hid s3; have F3 := Lib.hid f3; have HM3 := Lib.hid ((HM.out.alloc _).nil_trans m3 (fun i hi => by subst hi; exact G2.out)); have hB3 := (HBX.out.alloc _).mods m3 (fun h => HGB.out h.symm); have HB3 := Lib.hid hB3; obtain ⟨p0, p1, p2, p3⟩ := hB3.two; clear h3 m3 hB3 s3 f3)
                  | (go_at_call 23; refine (rraw_any _ Bs err _ (by omega)).mono ?_; rintro e w4 ⟨B4, he4, hb4, hl4, m4⟩; rw [SA1.out] at hb4; rw [SA1.out, SA2.out] at he4; unfold refOf at he4; subst he4; have HBZ : Hid (e1 = 0 → B4 = zs1) := (fun h => (hb4 h).trans (SA3.out h)); have H4 := Lib.hid (H3.out.mods m4 (fun h => h) (fun _ _ h => h)); have HM4 := Lib.hid (HM3.out.trans m4); have S4 := Lib.hid (S3.out.mods m4 (fun _ _ h => h)); have hB4 := HB3.out.mods m4 (fun h => h); have HB4 := Lib.hid hB4; have HL4 := Lib.hid hl4; obtain ⟨q0, q1, q2, q3⟩ := hB4.two; clear hb4 hl4 m4 hB4))
                obtain ⟨w5, hw5⟩ : ∃ w5, w5 = ((w4.setCell ⟨Bx, 0, none⟩ (.string (strOf B4))).setCell ⟨Bx, 1, none⟩ (.int .i64 e1)) := ⟨_, rfl⟩
                rw [← hw5]
                have hB5 : Blk w5 Bx 38 #[.string (strOf B4), .int .i64 e1] := by rw [hw5]; exact set_one HB4.out _ _
                have m45 : Mods (· = Bx) w4 w5 := by rw [hw5]; exact ((Mods.refl (· = Bx) w4).setCell (fun _ => rfl) _).setCell (fun _ => rfl) _
                have hR5 : IsReader w5 g k e1 zs1 := H4.out.mods m45 HGB.out (fun q hq => HKB.out q hq)
                have hM5 : Mods Nil w w5 := HM4.out.nil_trans m45 (fun i hi => by subst hi; exact HWB.out)
                have HB5 := Lib.hid hB5
                have HR5 := Lib.hid hR5
                have HM5 := Lib.hid hM5
                obtain ⟨f0, f1, _, _⟩ := hB5.two
                obtain ⟨EV, hEV⟩ : ∃ EV : Int, (if e1 = 0 then (if zs1 = [] then (0 : Int) else 12) else e1) = EV := ⟨_, rfl⟩
                have HEV1 := Lib.hid hEV
                have HEV2 : Hid ((if e1 = 0 then (if B4 = [] then (0 : Int) else 12) else e1) = EV) := by
                  show _ = _
                  rw [← hEV]
                  by_cases he1 : e1 = 0
                  · rw [if_pos he1, if_pos he1, HBZ.out he1]
                  · rw [if_neg he1, if_neg he1]
                have M45 := Lib.hid m45
                have kcO : ∀ W : World, Mods Nil w5 W → (convert 23 9 (.slice A3 L c3)).run Try.prog W = .ok (.string (strOf T)) W := fun W hW => run_string_sl W 23 5 Try.underlying23 Try.underlying5 A3 L c3 T HTL.out ((S4.out.mods' M45.out (fun hx => F3.out.off hx (fun q hq => by subst hq; simp; omega))).mods hW (fun _ _ h => h)) 9 Try.underlying9
                clear hw5 hB5 hR5 hM5 hEV m45
                go_region_held (fun W => W.cell? ⟨Bx, 0, none⟩ = some (.string (strOf B4)) ∧ W.cell? ⟨Bx, 1, none⟩ = some (.int .i64 e1) ∧ Mods Nil w5 W) (first | exact ⟨f0, f1, (Mods.refl Nil w5).drew⟩ | assumption) (first
                  | (go_at_call 24; refine (err_any (HR5.out.mods (S := Nil) (by first | exact (Mods.refl Nil w5).drew | (refine And.right (And.right ?_); assumption)) (fun h => h) (fun _ _ h => h))).mono ?_; rintro e w6 ⟨rfl, rfl⟩)
                  | (go_at_call 25; refine (end_any (HR5.out.mods (S := Nil) (by first | exact (Mods.refl Nil w5).drew | (refine And.right (And.right ?_); assumption)) (fun h => h) (fun _ _ h => h))).mono ?_; rintro e w7 ⟨he7, rfl⟩; rw [HEV1.out] at he7; subst he7)
                  | (go_at_call 26; refine (rend_any _ B4 e1).mono ?_; rintro e w9 ⟨he9, m9⟩; rw [HEV2.out] at he9; subst he9; have hq9 : Mods Nil w5 w9 := Mods.trans (by first | exact (Mods.refl Nil w5).drew | (refine And.right (And.right ?_); assumption)) m9; have hB9 := HB5.out.mods hq9 (fun h => h); have HB9 := Lib.hid hB9; have HQ9 := Lib.hid hq9; have hS9 : w9.cell? ⟨Bx, 0, none⟩ = some (.string (strOf B4)) ∧ w9.cell? ⟨Bx, 1, none⟩ = some (.int .i64 e1) ∧ Mods Nil w5 w9 := ⟨hB9.two.1, hB9.two.2.1, hq9⟩; clear m9 hB9 hq9))
                all_goals
                  go_wp2
                  exact ⟨⟨j + 1, e1, zs1, B4, by omega, by go_num, HR5.out.mods HQ9.out (fun h => h) (fun _ _ h => h), HL1.out, HB9.out, HBZ.out, Nat.le_trans HL4.out hbl, HM5.out.trans HQ9.out⟩, by simp [intOf]; omega⟩
        · go_wp2_with (first
            | (go_at_call 18; refine (uint_nil _).mono ?_; rintro e w3 ⟨rfl, rfl⟩)
            | (go_at_call 22; refine (raw_nil _ _).mono ?_; rintro e w3 ⟨rfl, rfl⟩)
            | (go_at_call 20; refine (bytes_nil _ _).mono ?_; rintro e w3 ⟨rfl, rfl⟩)
            | (go_at_call 24; refine (err_nil _).mono ?_; rintro e w3 ⟨rfl, rfl⟩)
            | (go_at_call 25; refine (end_nil _).mono ?_; rintro e w3 ⟨rfl, rfl⟩))
          go_ret
          exact ⟨rfl, HM.out⟩
end Go.Proofs.Ytkamikmamhbjcaa
