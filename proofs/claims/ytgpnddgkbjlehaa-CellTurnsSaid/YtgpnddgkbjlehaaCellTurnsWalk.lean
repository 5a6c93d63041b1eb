/- CellTurns' walk. -/
import Derived.Test.YtgpnddgkbjlehaaAwake08
namespace Go.Proofs.Ytgpnddgkbjlehaa
set_option maxRecDepth 1000000
open Go.RowKit
set_option linter.unusedVariables false

set_option maxHeartbeats 6400000 in
theorem cellTurns_walk (w : World) {A : Option Addr} {c n : Nat} {l : List Row} (hn : l.length = n) (hs : Sl w A c (l.map Row.val)) (hr : ∀ r ∈ l, r.ok w) {A1 : Option Addr} {c1 m : Nat} {ys : List UInt8} (hm : ys.length = m) (hs1 : Sl w A1 c1 (bts ys)) :
    Calls Try.prog 6 #[.slice A n c, .slice A1 m c1] w fun e w' => e = .returned (.bool true) ∧ Mods Nil w w' := by
  by_cases h30 : 30 < n
  · have hI : decide ((30 : Int) < (n : Int)) = true := by simp; omega
    clear hn hs hr hm hs1
    go_enter Try.func6, Try.ntmps6
    go_wp2_with (go_at_call 30; refine (awake8_any _).mono ?_; rintro e w1 ⟨rfl, m1⟩; have M1 := Lib.hid m1; clear m1)
    go_ret
    exact ⟨rfl, M1.out⟩
  have hI : decide ((30 : Int) < (n : Int)) = false := by simp; omega
  by_cases hmn : m < n
  · have hJ : (m : Int) < (n : Int) := by omega
    clear hn hs hr hm hs1
    go_enter Try.func6, Try.ntmps6
    go_wp2_with (go_at_call 30; refine (awake8_any _).mono ?_; rintro e w1 ⟨rfl, m1⟩; have M1 := Lib.hid m1; clear m1)
    go_ret
    exact ⟨rfl, M1.out⟩
  have hJ : (n : Int) ≤ (m : Int) := by omega
  obtain ⟨ls, hls⟩ : ∃ ls, l.map (·.xs) = ls := ⟨_, rfl⟩
  have HN30 := Lib.hid (show n ≤ 30 by omega)
  have HNM := Lib.hid (show n ≤ m by omega)
  have HROW := Lib.hid (fun j (hj : j < n) => in8_at hn hls hs hr hj)
  have HM := Lib.hid hm
  have HP := Lib.hid hs1
  clear hn hs hr hm hs1 hls h30 hmn
  go_enter Try.func6, Try.ntmps6
  go_wp2_with (first
    | (go_at_call 30; refine (awake8_any _).mono ?_; rintro e w1 ⟨rfl, m1⟩; have M1 := Lib.hid m1; clear m1)
    | (go_at_call 10; refine (lnew w1 (base := w.heap.size) (n := 5) (k := 5) M1.out.size rfl (by omega) (by omega)).mono ?_; rintro e w2 ⟨db, rfl, d2, m2⟩; have D2 := Lib.hid d2; have M2 := Lib.hid (M1.out.trans m2); clear d2 m2)
    | (go_at_call 31; refine (a8new (at_ := 2) (i := 2) D2.out M2.out.size (by omega) (by omega) rfl).mono ?_; rintro e w3 ⟨cb, rfl, a3, m3⟩; have A3 := Lib.hid a3; have M3 := Lib.hid (M2.out.trans m3); clear a3 m3))
  go_loopw [8, 9, 10] (fun s er x wr => ∃ (i cb : Nat) (L : List (List UInt8)) (k : PCell), i ≤ n ∧ s = .pointer (some ⟨cb, 0, none⟩) ∧ er = .int .i64 0 ∧ x = .int .i64 (i : Int) ∧ At8 wr w.heap.size cb db 2 L k ∧ k.great = i ∧ Mods Nil w wr) (fun _ _ x _ => n - (intOf x).toNat)
  case atStart => exact ⟨0, cb, _, cellNew 2, Nat.zero_le _, rfl, rfl, rfl, A3.out, rfl, M3.out⟩
  case round =>
    clear A3
    obtain ⟨i, cb, L, k, hi, rfl, rfl, rfl, ha, hg, hmo⟩ := hrel
    have HA := Lib.hid ha
    have HG := Lib.hid hg
    have HMO := Lib.hid hmo
    clear ha hg hmo
    by_cases hlt : i < n
    · have hltI : (i : Int) < (n : Int) := by omega
      have w6 : IntKind.i64.wrap ((i : Int) + 1) = (i : Int) + 1 := by rw [IntKind.wrap_i64]; have := HN30.out; omega
      have u6 : IntKind.u64.wrap (i : Int) = (i : Int) := by rw [IntKind.wrap_u64]; have := HN30.out; omega
      have u7 : IntKind.u64.wrap ((i : Int) + 1) = (i : Int) + 1 := by rw [IntKind.wrap_u64]; have := HN30.out; omega
      obtain ⟨b, off, r, rfl, hrow, hrok, hblt, hcell⟩ := HROW.out i hlt
      obtain ⟨q, hq⟩ : ∃ q, r.xs.length = q := ⟨_, rfl⟩
      rw [hq] at hcell
      have c0 := (World.cell?_of_block (HMO.out.block b hblt (fun h => h))).trans hcell
      have HROK := Lib.hid hrok
      have HQ := Lib.hid hq
      by_cases h43 : 43 < q
      · have h43I : (43 : Int) < (q : Int) := by omega
        have HB := Lib.hid h43
        clear hrok hrow hcell hq h43
        go_wp2_with (first
          | (go_at_call 33; refine (a8big HA.out HB.out).mono ?_; rintro e w5 ⟨rfl, rfl⟩))
        go_ret
        exact ⟨rfl, HMO.out⟩
      have h43I : (q : Int) ≤ 43 := by omega
      have H43 := Lib.hid (show q ≤ 43 by omega)
      have HG1 : Hid (k.great + 1 < 18446744073709551616) := Lib.hid (by have := HG.out; have := HN30.out; omega)
      have CROW : ∀ W, Mods Nil w W → W.cell? ⟨b, off + i, none⟩ = some (.slice r.A q r.c) := fun W h => (World.cell?_of_block (h.block b hblt (fun h => h))).trans hcell
      have v1 := fun W (h : Mods Nil w W) => conv8 HQ.out (HROK.out.mods h)
      have hiy : i < ys.length := by rw [HM.out]; have := HNM.out; omega
      obtain ⟨bA, oA, rfl, hbA, hc⟩ := HP.out.at_ (by rw [bts_length]; omega)
      have hcy := hc i _ (bts_get ys i hiy)
      obtain ⟨y, hy⟩ : ∃ y, (ys[i]'hiy).toNat = y := ⟨_, rfl⟩
      rw [hy] at hcy
      have CF : ∀ W, Mods Nil w W → W.cell? ⟨bA, oA + i, none⟩ = some (.int .u8 (y : Int)) := fun W h => (World.cell?_of_block (h.block bA hbA (fun h => h))).trans hcy
      have hyI : (i : Int) < (m : Int) := by have := HNM.out; omega
      have hand := u8_and1c y
      obtain ⟨k2, hk2⟩ : ∃ k2, k.tell r.xs = k2 := ⟨_, rfl⟩
      have HDAT : Hid ((k.tell r.xs).data = r.xs) := Lib.hid (PCell.tell_data _ (by omega))
      have HTRN : Hid ((k.tell r.xs).turn = i + 1) := Lib.hid (by rw [PCell.tell_turn HG1.out, HG.out])
      have HG2 : Hid ((k.tell r.xs).great = i + 1) := Lib.hid (by show k.great + 1 = _; rw [HG.out])
      clear hrok hrow hcell hq hc hcy hy hiy hbA h43 hk2
      by_cases h1 : y % 2 = 1
      · rw [h1] at hand
        go_wp2_with fail
        go_region_held (fun W => Mods Nil w W) (first | exact HMO.out.drew | assumption) (first
          | (go_at_call 37; refine (a8get A6.out HDAT.out HQ.out).mono ?_; rintro e w7 ⟨A7, c7, rfl, s7, m7⟩; have A7 := Lib.hid (A6.out.nil m7); have v7 := conv8 HQ.out s7; have M7 := Lib.hid (M6.out.trans m7); have M7' := M7.out; clear s7 m7)
          | (go_at_call 38; refine (a8turn A5.out HTRN.out (y := (i : Int) + 1) (by omega)).mono ?_; rintro e w6 ⟨rfl, m6⟩; have A6 := Lib.hid (A5.out.nil m6); have M6 := Lib.hid (M5.out.trans m6); have M6' := M6.out; clear m6)
          | (go_at_call 33; refine (a8set (HA.out.nil (Mods.refl Nil wr).drew) (HROK.out.mods HMO.out.drew) HQ.out H43.out HG1.out).mono ?_; rintro e w5 ⟨rfl, a5, m5⟩; have A5 := Lib.hid a5; have M5 := Lib.hid (CM.nilTrans HMO.out.drew (Nat.le_refl _) m5); have M5' := M5.out; clear a5 m5))
        all_goals
          go_wp2_with (first
            | (go_at_call 31; refine (a8again A7.out M7.out.size (i := 2) rfl).mono ?_; rintro e w8 ⟨cb2, rfl, a8, m8⟩; have A8 := Lib.hid a8; have M8 := Lib.hid (M7.out.trans m8); clear a8 m8))
          go_region_held (fun W => Mods Nil w W) (first | exact M8.out.drew | assumption) (first
            | (go_at_call 37; refine (a8get A9.out HDAT.out HQ.out).mono ?_; rintro e w10 ⟨A10, c10, rfl, s10, m10⟩; have A10 := Lib.hid (A9.out.nil m10); have v10 := conv8 HQ.out s10; have M10 := Lib.hid (M9.out.trans m10); have M10' := M10.out; clear s10 m10)
            | (go_at_call 38; refine (a8turn (A8.out.nil (Mods.refl Nil w8).drew) HTRN.out (y := (i : Int) + 1) (by omega)).mono ?_; rintro e w9 ⟨rfl, m9⟩; have A9 := Lib.hid ((A8.out.nil (Mods.refl Nil w8).drew).nil m9); have M9 := Lib.hid (M8.out.drew.trans m9); have M9' := M9.out; clear m9))
          all_goals
            go_wp2_with fail
            exact ⟨⟨i + 1, cb2, _, _, hlt, rfl, rfl, by go_num, A10.out, HG2.out, M10.out⟩, by simp [intOf]; omega⟩
      · have h0 : y % 2 = 0 := by omega
        rw [h0] at hand
        go_wp2_with fail
        go_region_held (fun W => Mods Nil w W) (first | exact HMO.out.drew | assumption) (first
          | (go_at_call 37; refine (a8get A6.out HDAT.out HQ.out).mono ?_; rintro e w7 ⟨A7, c7, rfl, s7, m7⟩; have A7 := Lib.hid (A6.out.nil m7); have v7 := conv8 HQ.out s7; have M7 := Lib.hid (M6.out.trans m7); have M7' := M7.out; clear s7 m7)
          | (go_at_call 38; refine (a8turn A5.out HTRN.out (y := (i : Int) + 1) (by omega)).mono ?_; rintro e w6 ⟨rfl, m6⟩; have A6 := Lib.hid (A5.out.nil m6); have M6 := Lib.hid (M5.out.trans m6); have M6' := M6.out; clear m6)
          | (go_at_call 33; refine (a8set (HA.out.nil (Mods.refl Nil wr).drew) (HROK.out.mods HMO.out.drew) HQ.out H43.out HG1.out).mono ?_; rintro e w5 ⟨rfl, a5, m5⟩; have A5 := Lib.hid a5; have M5 := Lib.hid (CM.nilTrans HMO.out.drew (Nat.le_refl _) m5); have M5' := M5.out; clear a5 m5))
        all_goals
          go_wp2_with fail
          exact ⟨⟨i + 1, cb, _, _, hlt, rfl, rfl, by go_num, A7.out, HG2.out, M7.out⟩, by simp [intOf]; omega⟩
    · obtain rfl : i = n := by omega
      go_wp2_with fail
      go_ret
      exact ⟨rfl, HMO.out⟩
end Go.Proofs.Ytgpnddgkbjlehaa
