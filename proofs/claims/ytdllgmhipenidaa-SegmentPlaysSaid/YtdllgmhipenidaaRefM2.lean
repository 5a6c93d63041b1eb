/- Texts laid as one: Ref02, Ref02b. -/
import Derived.Test.YtdllgmhipenidaaBaseM
import Derived.Test.YtdllgmhipenidaaCrcM
import Derived.Laws.BitsAllLaws

section
/- The reference of layer 2: sums bit by bit; four bytes; what is sealed; what is right. -/
namespace Go.Proofs.Ytdllgmhipenidaa
set_option maxRecDepth 100000
open Go.RowKit
set_option linter.unusedVariables false

theorem bitN_snoc' (n x : Nat) : bitN (n + 1) x = bit1 (bitN n x) := by rw [bitN_add]; rfl
/-- A bit more, as the reference tells it. -/
theorem ref_step (x : Nat) (hx : x < 4294967296) : (x % 2 = 0 ∧ bit1 x = x / 2) ∨ (x % 2 = 1 ∧ bits .xor .u32 ((x : Int) / 2) 2197175160 = ((bit1 x : Nat) : Int)) := by
  rcases Nat.mod_two_eq_zero_or_one x with h | h
  · exact .inl ⟨h, bit1_even h⟩
  · refine .inr ⟨h, ?_⟩
    rw [show (x : Int) / 2 = ((x / 2 : Nat) : Int) by omega, show (2197175160 : Int) = ((2197175160 : Nat) : Int) from rfl, u32_xor_nat _ _ (by omega) (by omega), bit1_odd h]

set_option maxHeartbeats 1600000 in
theorem rof_any (w : World) (xs : List UInt8) (hl : xs.length ≤ 140737488355328) : Calls Try.prog 122 #[.string (strOf xs)] w fun e w' => e = .returned (.int .u32 (sumOf xs : Nat)) ∧ w = w' := by
  obtain ⟨n, hn⟩ : ∃ n, xs.length = n := ⟨_, rfl⟩
  have hsz : (strOf xs).size = n := by simp [hn]
  have HN := Lib.hid hn
  have hn63 : n ≤ 140737488355328 := by omega
  clear hl hn
  go_enter Try.func122, Try.ntmps122
  go_wp2_with fail
  go_loop [3, 4] (fun x1 i => ∃ (j q : Nat), j ≤ n ∧ i = .int .i64 j ∧ q = crc 4294967295 (xs.take j) ∧ x1 = .int .u32 q) (fun _ i => n - (intOf i).toNat)
  case atStart => exact ⟨0, 4294967295, by omega, rfl, rfl, rfl⟩
  case round =>
    obtain ⟨j, q, hj, rfl, hq, rfl⟩ := hrel
    by_cases hlt : j < n
    · have hjI : (j : Int) < (n : Int) := by omega
      have hjl : j < xs.length := by rw [HN.out]; exact hlt
      have hix := index_strOf
      have hix1 := fun W => index_strOf W xs j hjl
      have hc256 := xs[j].toNat_lt
      have hnext : crc 4294967295 (xs.take (j + 1)) = bitN 8 (q ^^^ xs[j].toNat) := by rw [take_snoc' xs j hjl, crc_snoc, hq]; rfl
      have hq32 : q < 4294967296 := by rw [hq]; exact crc_lt (by omega) _
      generalize xs[j].toNat = d at hix1 hc256 hnext
      obtain ⟨y, hy, ey, h1⟩ : ∃ y, y < 4294967296 ∧ y = q ^^^ d ∧ bits .xor .u32 (q : Int) (d : Int) = (y : Int) := ⟨q ^^^ d, Nat.xor_lt_two_pow (n := 32) hq32 (by omega), rfl, u32_xor_nat _ _ hq32 (by omega)⟩
      have hw : (d : Int) % 4294967296 = d := by omega
      rw [← ey] at hnext
      have HX := Lib.hid hnext
      have HY := Lib.hid hy
      clear hix hnext hq hq32 ey hjl hy
      go_wp2_with fail
      clear h1 hw hix1
      go_loop [3, 5] (fun x1 i => ∃ (m z : Nat), m ≤ 8 ∧ i = .int .i64 m ∧ z = bitN m y ∧ x1 = .int .u32 z) (fun _ i => 8 - (intOf i).toNat)
      case atStart => exact ⟨0, y, by omega, rfl, rfl, rfl⟩
      case round =>
        obtain ⟨m, z, hm, rfl, hz, rfl⟩ := hrel
        by_cases hm8 : m < 8
        · have hmI : (m : Int) < 8 := by omega
          have hz32 : z < 4294967296 := by rw [hz]; exact bitN_lt m HY.out
          have HZ := Lib.hid (show bitN (m + 1) y = bit1 z by rw [bitN_snoc', hz])
          rcases ref_step z hz32 with ⟨h1, h2⟩ | ⟨h1, h2⟩
          · have h3 : (z : Int) % 2 = 0 := by omega
            have HE := Lib.hid h2
            clear hz h1 h2
            go_wp2_with fail
            exact ⟨⟨m + 1, z / 2, by omega, by go_num, by rw [HZ.out, HE.out], rfl⟩, by simp [intOf]; omega⟩
          · have h3 : (z : Int) % 2 = 1 := by omega
            clear hz h1
            go_wp2_with fail
            exact ⟨⟨m + 1, bit1 z, by omega, by go_num, HZ.out.symm, rfl⟩, by simp [intOf]; omega⟩
        · obtain rfl : m = 8 := by omega
          have HE := Lib.hid hz
          clear hz
          go_wp2_with fail
          exact ⟨⟨j + 1, z, by omega, by go_num, by rw [HX.out, HE.out], rfl⟩, by simp [intOf]; omega⟩
    · obtain rfl : j = n := by omega
      have hq32 : q < 4294967296 := by rw [hq]; exact crc_lt (by omega) _
      have HE := Lib.hid (show ((4294967295 : Int) - (q : Int)) = ((sumOf xs : Nat) : Int) by unfold sumOf; rw [← HN.out, List.take_length] at hq; omega)
      clear hq
      go_wp2_with fail
      go_ret
      refine ⟨?_, rfl⟩
      rw [← HE.out]
      rfl

theorem rfour_any (w : World) (x : Nat) (hx : x < 4294967296) : Calls Try.prog 77 #[.int .u32 x] w fun e w' => e = .returned (.string (strOf (fourOf x))) ∧ Mods Nil w w' := by
  have e (n : Nat) : ((UInt8.ofNat n).toNat : Int) = (n : Int) % 256 := by simp
  have HB : [Value.int .u8 ((x : Int) / 16777216), .int .u8 ((x : Int) / 65536 % 256), .int .u8 ((x : Int) / 256 % 256), .int .u8 ((x : Int) % 256)] = bts (fourOf x) := by
    simp only [bts, fourOf, List.map_cons, List.map_nil, e]
    rw [show ((x / 16777216 : Nat) : Int) % 256 = (x : Int) / 16777216 by omega, show ((x / 65536 : Nat) : Int) = (x : Int) / 65536 by omega, show ((x / 256 : Nat) : Int) = (x : Int) / 256 by omega]
  have k := run_string_sl (P := Try.prog) (w.alloc (.cells #[Value.int .u8 ((x : Int) / 16777216), .int .u8 ((x : Int) / 65536 % 256), .int .u8 ((x : Int) / 256 % 256), .int .u8 ((x : Int) % 256)] 5)) 42 5 Try.underlying42 Try.underlying5 _ 4 4 (fourOf x) rfl (build_at rfl HB rfl (by unfold maxLen; omega)) 9 Try.underlying9
  clear HB e
  go_enter Try.func77, Try.ntmps77
  go_wp2_with fail
  go_ret
  exact ⟨rfl, (Mods.refl _ _).alloc _⟩

theorem rsealed_any (w : World) (xs : List UInt8) (hl : xs.length ≤ 140737488355328) : Calls Try.prog 78 #[.string (strOf xs)] w fun e w' => e = .returned (.string (strOf (sealedOf xs))) ∧ Mods Nil w w' := by
  have hadd := fun W => string_add Try.prog xs (fourOf (sumOf xs)) (by simp [fourOf]; omega) W
  go_enter Try.func78, Try.ntmps78
  go_wp2_with (first
    | (go_at_call 122; refine (rof_any _ xs hl).mono ?_; rintro e w1 ⟨rfl, rfl⟩)
    | (go_at_call 77; refine (rfour_any _ _ (sumOf_lt _)).mono ?_; rintro e w2 ⟨rfl, m2⟩; have M2 := Lib.hid m2; clear m2))
  go_ret
  exact ⟨rfl, M2.out⟩
end Go.Proofs.Ytdllgmhipenidaa
end

section
/- The reference of layer 2: what is right. -/
namespace Go.Proofs.Ytdllgmhipenidaa
set_option maxRecDepth 100000
open Go.RowKit
set_option linter.unusedVariables false

theorem rright_any (w : World) (xs : List UInt8) (hl : xs.length ≤ 140737488355328) : Calls Try.prog 126 #[.string (strOf xs)] w fun e w' => e = .returned (.bool (rightOf xs)) ∧ Mods Nil w w' := by
  obtain ⟨n, hn⟩ : ∃ n, xs.length = n := ⟨_, rfl⟩
  have hsz : (strOf xs).size = n := by simp [hn]
  by_cases h4 : n < 4
  · rw [rightOf_short (by omega)]
    have hd1 : decide ((4 : Int) ≤ (n : Int)) = false := by simp; omega
    have h4I : (n : Int) < 4 := by omega
    clear hl hn h4
    go_enter Try.func126, Try.ntmps126
    go_wp2_with fail
    go_ret
    exact ⟨rfl, Mods.refl _ _⟩
  · have h4I : (4 : Int) ≤ (n : Int) := by omega
    have hr : rightOf xs = (sealedOf (xs.take (n - 4)) == xs) := by
      unfold rightOf
      rw [hn, Bool.eq_iff_iff]
      simp
      intro _
      omega
    obtain ⟨ys, hys⟩ : ∃ ys, xs.take (n - 4) = ys := ⟨_, rfl⟩
    have hex : (strOf xs).extract 0 (n - 4) = strOf ys := by rw [strOf_extract, ← hys]; simp
    have hyl : ys.length ≤ 140737488355328 := by rw [← hys]; simp; omega
    rw [hys] at hr
    rw [hr]
    have e1 := strOf_toList xs
    have e2 := strOf_toList (sealedOf ys)
    have h5 : ((n : Int) - 4).toNat = n - 4 := by omega
    have HYL := Lib.hid hyl
    have hn63 : n ≤ 140737488355328 := by omega
    clear hl hn hys hr hyl
    go_enter Try.func126, Try.ntmps126
    go_wp2_with (first | (go_at_call 78; (refine (rsealed_any _ ys HYL.out).mono ?_; rintro e w1 ⟨rfl, m1⟩; have M1 := Lib.hid m1; clear m1)))
    go_ret
    exact ⟨rfl, M1.out⟩
end Go.Proofs.Ytdllgmhipenidaa
end
