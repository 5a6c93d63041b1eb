/- NumsStays's walk. -/
import Derived.Test.YtkamikmamhbjcaaAwake1
import Derived.Test.YtkamikmamhbjcaaPlain1
import Derived.Test.YtkamikmamhbjcaaOpen
namespace Go.Proofs.Ytkamikmamhbjcaa
open Go.RowKit

theorem IsReader.alloc {w : World} {g : Nat} {k : Option Nat} {err : Int} {xs : List UInt8} (h : IsReader w g k err xs) (o : Obj) : IsReader (w.alloc o) g k err xs :=
  h.mods (S := Nil) ((Mods.refl _ _).alloc o) (fun h => h) (fun _ _ h => h)
theorem readUint_err {err : Int} (h : err ≠ 0) (xs : List UInt8) : readUint err xs = (err, xs, 0) := by unfold readUint; rw [if_pos h]
theorem readRaw_err {err : Int} (h : err ≠ 0) (xs : List UInt8) (n : Int) : readRaw err xs n = (err, xs, []) := by unfold readRaw; rw [if_pos h]
theorem readRaw_le (err : Int) (xs : List UInt8) (n : Int) : (readRaw err xs n).2.1.length ≤ xs.length := by
  unfold readRaw
  repeat' split
  all_goals simp

set_option maxHeartbeats 1600000 in
theorem numsStays_walk (w : World) {A : Option Addr} {c n : Nat} {xs : List UInt8} (hn : xs.length = n) (hs : Sl w A c (bts xs)) {A2 : Option Addr} {c2 n2 : Nat} {ys : List UInt8} (hn2 : ys.length = n2) (hs2 : Sl w A2 c2 (bts ys)) :
    Calls Try.prog 8 #[.slice A n c, .slice A2 n2 c2] w fun e w' => e = .returned (.bool true) ∧ Mods Nil w w' := by
  have hmx := hs.max
  have hle := hs.le
  have hmx2 := hs2.max
  have hle2 := hs2.le
  unfold maxLen at hmx hmx2
  simp at hle hle2
  by_cases hbig : 200 < n
  · have hb : decide ((200 : Int) < (n : Int)) = true := by simp; omega
    clear hs hs2
    go_enter Try.func8, Try.ntmps8
    go_wp2_with (first | (go_at_call 9; refine (awake_any _).mono ?_; rintro e w1 ⟨rfl, m1⟩; have M1 := Lib.hid m1; clear m1))
    go_ret
    exact ⟨rfl, M1.out⟩
  · have hb : decide ((200 : Int) < (n : Int)) = false := by simp; omega
    by_cases hbig2 : 40 < n2
    · have hb2 : (40 : Int) < (n2 : Int) := by omega
      clear hs hs2
      go_enter Try.func8, Try.ntmps8
      go_wp2_with (first | (go_at_call 9; refine (awake_any _).mono ?_; rintro e w1 ⟨rfl, m1⟩; have M1 := Lib.hid m1; clear m1))
      go_ret
      exact ⟨rfl, M1.out⟩
    · have hb2 : ¬ (40 : Int) < (n2 : Int) := by omega
      have HS := Lib.hid hs
      have HN := Lib.hid hn
      have HS2 := Lib.hid hs2
      have HN2 := Lib.hid hn2
      clear hs hs2 hn hn2
      go_enter Try.func8, Try.ntmps8
      go_wp2_with (first
        | (go_at_call 9; refine (awake_any _).mono ?_; rintro e w1 ⟨rfl, m1⟩; have M1 := Lib.hid m1; clear m1)
        | (go_at_call 17; refine (newReader_any HN.out (by have := HN.out; omega) (HS.out.mods M1.out (fun _ _ h => h))).mono ?_; rintro e w2 ⟨g, k, rfl, h2, g2, k2, m2⟩; have H2 := Lib.hid h2; have G2 := Lib.hid (Nat.le_trans M1.out.size g2); have M2 := Lib.hid (M1.out.trans m2); clear h2 g2 k2 m2))
      go_loopw [7, 8] (fun f i wr => ∃ (j : Nat) (err : Int) (zs : List UInt8), j ≤ n2 ∧ i = .int .i64 j ∧ f = .int .i64 err ∧ IsReader wr g k err zs ∧ zs.length ≤ 200 ∧ Mods Nil w wr) (fun _ i _ => n2 - (intOf i).toNat)
      case atStart => exact ⟨0, 0, xs, Nat.zero_le _, rfl, rfl, H2.out, by have := HN.out; omega, M2.out⟩
      case round =>
        obtain ⟨j, err, zs, hj, rfl, rfl, hr, hzl, hmo⟩ := hrel
        have HR := Lib.hid hr
        have HM := Lib.hid hmo
        clear hr hmo
        by_cases hlt : j < n2
        · have hjl : j < ys.length := by have := HN2.out; omega
          have hs3 := HS2.out.mods HM.out (fun _ _ h => h)
          obtain ⟨b, off, rfl, hb4, hcell⟩ := hs3.at_ (by simp; omega)
          have hc1 : wr.cell? ⟨b, off + j, none⟩ = some (.int .u8 (ys[j].toNat : Int)) := hcell _ _ (bts_get ys j hjl)
          obtain ⟨y, hy⟩ : ∃ y, y = ys[j].toNat := ⟨_, rfl⟩
          rw [← hy] at hc1
          have hy2 : y ≤ 255 := by have := ys[j].toNat_lt; omega
          clear hy hcell hs3 hjl
          by_cases hodd : (bits .and .u8 (y : Int) 1 == 0) = true
          · by_cases he : err = 0
            · subst he
              go_wp2_with (first
                | (go_at_call 18; refine (uint_any (by omega) (HR.out.alloc _)).mono ?_; rintro e w3 ⟨rfl, h3, m3⟩; have H3 := Lib.hid h3; have M3 := Lib.hid ((HM.out.alloc _).nil_trans m3 (fun i hi => by subst hi; exact G2.out)); clear h3 m3)
                | (go_at_call 24; refine (err_any H3.out).mono ?_; rintro e w4 ⟨rfl, rfl⟩))
              exact ⟨⟨j + 1, _, _, by omega, by go_num, rfl, H3.out, Nat.le_trans (readUint_le zs 0) hzl, M3.out⟩, by simp [intOf]; omega⟩
            · have hb5 : (err != 0) = true := by simp [he]
              have hb6 : (err == 0) = false := by simp [he]
              have HE := Lib.hid he
              clear he
              go_wp2_with (first
                | (go_at_call 18; refine (uint_any (by omega) (HR.out.alloc _)).mono ?_; rintro e w3 ⟨he1, h3, m3⟩; simp only [readUint_err HE.out] at he1 h3; subst he1; have H3 := Lib.hid h3; have M3 := Lib.hid ((HM.out.alloc _).nil_trans m3 (fun i hi => by subst hi; exact G2.out)); clear h3 m3)
                | (go_at_call 24; refine (err_any H3.out).mono ?_; rintro e w4 ⟨rfl, rfl⟩))
              exact ⟨⟨j + 1, _, _, by omega, by go_num, rfl, H3.out, hzl, M3.out⟩, by simp [intOf]; omega⟩
          · have hodd2 : (bits .and .u8 (y : Int) 1 == 0) = false := by simpa using hodd
            clear hodd
            by_cases he : err = 0
            · subst he
              go_wp2_with (first
                | (go_at_call 22; refine (raw_any _ (by omega) (HR.out.alloc _)).mono ?_; rintro e w3 ⟨A3, c3, rfl, s3, f3, h3, m3⟩; have H3 := Lib.hid h3; have M3 := Lib.hid ((HM.out.alloc _).nil_trans m3 (fun i hi => by subst hi; exact G2.out)); clear s3 f3 h3 m3)
                | (go_at_call 24; refine (err_any H3.out).mono ?_; rintro e w4 ⟨rfl, rfl⟩))
              exact ⟨⟨j + 1, _, _, by omega, by go_num, rfl, H3.out, Nat.le_trans (readRaw_le 0 zs _) hzl, M3.out⟩, by simp [intOf]; omega⟩
            · have hb5 : (err != 0) = true := by simp [he]
              have hb6 : (err == 0) = false := by simp [he]
              have HE := Lib.hid he
              clear he
              go_wp2_with (first
                | (go_at_call 22; refine (raw_any _ (by omega) (HR.out.alloc _)).mono ?_; rintro e w3 ⟨A3, c3, he1, s3, f3, h3, m3⟩; simp only [readRaw_err HE.out] at he1 h3; subst he1; have H3 := Lib.hid h3; have M3 := Lib.hid ((HM.out.alloc _).nil_trans m3 (fun i hi => by subst hi; exact G2.out)); clear s3 f3 h3 m3)
                | (go_at_call 24; refine (err_any H3.out).mono ?_; rintro e w4 ⟨rfl, rfl⟩))
              exact ⟨⟨j + 1, _, _, by omega, by go_num, rfl, H3.out, hzl, M3.out⟩, by simp [intOf]; omega⟩
        · go_wp2
          go_ret
          exact ⟨rfl, HM.out⟩
end Go.Proofs.Ytkamikmamhbjcaa
