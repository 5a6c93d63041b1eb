/- NumsPut's walk. -/
import Derived.Test.YtkamikmamhbjcaaRef1
import Derived.Deep.RegionHeld
import Derived.Test.YtkamikmamhbjcaaPlain2
import Derived.Test.YtkamikmamhbjcaaOpen
namespace Go.Proofs.Ytkamikmamhbjcaa
open Go.RowKit

theorem nums_get' (xs : List Nat) (j : Nat) (h : j < xs.length) : (nums xs)[j]? = some (.int .u64 (xs[j] : Nat)) := by simp [nums, h]
theorem nums_length' (xs : List Nat) : (nums xs).length = xs.length := by simp [nums]

set_option maxRecDepth 100000 in
set_option maxHeartbeats 6400000 in
theorem numsPut_walk (w : World) {A : Option Addr} {c n : Nat} {xs : List Nat} (hn : xs.length = n) (hs : Sl w A c (nums xs)) (hx : ∀ x ∈ xs, x < 18446744073709551616) {A2 : Option Addr} {c2 n2 : Nat} {ys : List UInt8} (hn2 : ys.length = n2) (hs2 : Sl w A2 c2 (bts ys)) :
    Calls Try.prog 3 #[.slice A n c, .slice A2 n2 c2] w fun e w' => e = .returned (.bool true) ∧ Mods Nil w w' := by
  have hmx := hs.max
  have hle := hs.le
  have hmx2 := hs2.max
  have hle2 := hs2.le
  unfold maxLen at hmx hmx2
  rw [nums_length'] at hle
  rw [bts_length] at hle2
  by_cases hbig : 40 < n
  · have hb : decide ((40 : Int) < (n : Int)) = true := by simp; omega
    clear hs hs2
    go_enter Try.func3, Try.ntmps3
    go_wp2_with (first | (go_at_call 9; refine (awake_any _).mono ?_; rintro e w1 ⟨rfl, m1⟩; have M1 := Lib.hid m1; clear m1))
    go_ret
    exact ⟨rfl, M1.out⟩
  · have hb : decide ((40 : Int) < (n : Int)) = false := by simp; omega
    by_cases hbig2 : 300 < n2
    · have hb2 : (300 : Int) < (n2 : Int) := by omega
      clear hs hs2
      go_enter Try.func3, Try.ntmps3
      go_wp2_with (first | (go_at_call 9; refine (awake_any _).mono ?_; rintro e w1 ⟨rfl, m1⟩; have M1 := Lib.hid m1; clear m1))
      go_ret
      exact ⟨rfl, M1.out⟩
    · have hb2 : ¬ (300 : Int) < (n2 : Int) := by omega
      have HS := Lib.hid hs
      have HN := Lib.hid hn
      have HX := Lib.hid hx
      have HS2 := Lib.hid hs2
      have HN2 := Lib.hid hn2
      have hpl : (putAll xs).length ≤ 9 * xs.length := putAll_length xs hx
      have HPL := Lib.hid hpl
      have hplj : ∀ j, (putAll (xs.take j)).length ≤ 360 := fun j => by
        have := putAll_mono xs (i := j) (j := j + xs.length) (by omega)
        rw [List.take_of_length_le (i := j + xs.length) (by omega)] at this
        omega
      have HPJ := Lib.hid hplj
      clear hs hs2 hn hn2 hx hpl hplj
      have he0 : (strOf (putAll (xs.take 0))) = ⟨#[]⟩ := rfl
      have HE0 := Lib.hid he0
      clear he0
      go_enter Try.func3, Try.ntmps3
      go_wp2_with (first
        | (go_at_call 9; refine (awake_any _).mono ?_; rintro e w1 ⟨rfl, m1⟩; have M1 := Lib.hid m1; clear m1)
        | (go_at_call 10; refine (newWriter_any _).mono ?_; rintro e w2 ⟨rfl, h2, m2⟩; have H2 := Lib.hid h2; have M2 := Lib.hid (M1.out.trans m2); clear h2 m2))
      obtain ⟨B, hB⟩ : ∃ B, B = w1.heap.size := ⟨_, rfl⟩
      rw [← hB] at H2
      have hBw : w.heap.size ≤ B := by rw [hB]; exact M1.out.size
      rw [← hB]
      clear hB
      have HBW := Lib.hid hBw
      clear hBw
      go_loopw [7, 8] (fun s i wr => ∃ (j : Nat) (v : Value), j ≤ n ∧ i = .int .i64 j ∧ s = .string (strOf (putAll (xs.take j))) ∧ IsWriter wr B B v (putAll (xs.take j)) ∧ Mods Nil w wr) (fun _ i _ => n - (intOf i).toNat)
      case atStart => exact ⟨0, _, Nat.zero_le _, rfl, by rw [HE0.out], H2.out, M2.out⟩
      case round =>
        obtain ⟨j, v, hj, rfl, rfl, hwr, hmo⟩ := hrel
        have HWR := Lib.hid hwr
        have HM := Lib.hid hmo
        clear hwr hmo
        by_cases hlt : j < n
        · have hjl : j < xs.length := by have := HN.out; omega
          have hs3 := HS.out.mods HM.out (fun _ _ h => h)
          obtain ⟨b, off, rfl, hb4, hcell⟩ := hs3.at_ (by rw [nums_length']; omega)
          have hc1 : wr.cell? ⟨b, off + j, none⟩ = some (.int .u64 (xs[j] : Nat)) := hcell _ _ (nums_get' xs j hjl)
          have hc0 : w.cell? ⟨b, off + j, none⟩ = some (.int .u64 (xs[j] : Nat)) := HS.out.cells _ _ (nums_get' xs j hjl)
          have hbw : b < w.heap.size := HS.out.has.lt (by rw [nums_length']; omega)
          obtain ⟨x, hxx⟩ : ∃ x, x = xs[j] := ⟨_, rfl⟩
          have hx64 : x < 18446744073709551616 := by rw [hxx]; exact HX.out _ (List.getElem_mem hjl)
          have hsn := putAll_snoc xs j hjl
          rw [← hxx] at hc1 hc0 hsn
          have HC0 := Lib.hid hc0
          have HSN := Lib.hid hsn
          have HX6 := Lib.hid hx64
          have hadd := fun W => string_add Try.prog (putAll (xs.take j)) (putU x) (by have := HPJ.out j; have := putU_length x hx64; omega) W
          clear hcell hs3 hjl hxx hx64 hsn hc0
          go_wp2_with (first
            | (go_at_call 11; refine (wuint_any x HX6.out (by have := HPJ.out j; omega) HWR.out).mono ?_; rintro e w3 ⟨rfl, v3, h3, k3⟩; rw [← HSN.out] at h3; have H3 := Lib.hid h3; have M3 := Lib.hid (Wrote.nil_trans HM.out k3 HWR.out HBW.out); have hc3 : w3.cell? ⟨b, off + j, none⟩ = some (.int .u64 (x : Nat)) := (World.cell?_of_block (M3.out.block b hbw (fun h => h))).trans HC0.out; clear h3 k3)
            | (go_at_call 12; refine (ruint_any x HX6.out _).mono ?_; rintro e w4 ⟨rfl, m4⟩; have M4 := Lib.hid (M3.out.trans m4); have H4 := Lib.hid (H3.out.mods m4 (fun h => h) (fun _ _ h => h)); clear m4))
          exact ⟨⟨j + 1, _, by omega, by go_num, by rw [HSN.out], H4.out, M4.out⟩, by simp [intOf]; omega⟩
        · obtain rfl : j = n := by omega
          have hfull : putAll (xs.take j) = putAll xs := by rw [List.take_of_length_le (by have := HN.out; omega)]
          have hwr2 := HWR.out
          rw [hfull] at hwr2
          have HW2 := Lib.hid hwr2
          rw [hfull]
          have hL3 : (putAll xs).length ≤ 360 := by have := HPL.out; have := HN.out; omega
          have hbl := putB_length' ys (by have := HN2.out; omega)
          have HBL := Lib.hid hbl
          have HL3 := Lib.hid hL3
          clear hfull hwr2 hlt hj hL3 hbl
          go_wp2_with (first
            | (go_at_call 13; refine (wbytes_any HN2.out (by have := HL3.out; have := HN2.out; omega) HW2.out (HS2.out.mods HM.out (fun _ _ h => h)) (HW2.out.apart HBW.out HS2.out)).mono ?_; rintro e w5 ⟨rfl, v5, h5, k5⟩; have H5 := Lib.hid h5; have M5 := Lib.hid (Wrote.nil_trans HM.out k5 HW2.out HBW.out); clear h5 k5)
            | (go_at_call_of 14 (Value.pointer (some ⟨B, 0, none⟩)); refine (wraw_any HN2.out (by have := HL3.out; have := HBL.out; have := HN2.out; simp; omega) H5.out (HS2.out.mods M5.out (fun _ _ h => h))).mono ?_; rintro e w6 ⟨rfl, v6, h6, k6⟩; have H6 := Lib.hid h6; have M6 := Lib.hid (Wrote.nil_trans M5.out k6 H5.out HBW.out); clear h6 k6)
            | (go_at_call_of 11 (Value.pointer none); refine (wuint_nil _ _).mono ?_; rintro e w7 ⟨rfl, rfl⟩)
            | (go_at_call_of 14 (Value.pointer none); refine (wraw_nil _ _ _ _).mono ?_; rintro e w8 ⟨rfl, rfl⟩))
          obtain ⟨OUT, hOUT⟩ : ∃ OUT, OUT = putAll xs ++ putB ys ++ ys := ⟨_, rfl⟩
          have h6 := H6.out
          rw [← hOUT] at h6
          have HO6 := Lib.hid h6
          obtain ⟨L, hL⟩ : ∃ L, OUT.length = L := ⟨_, rfl⟩
          have hL1 : L ≤ 140737488355328 := by have := HL3.out; have := HBL.out; have := HN2.out; rw [← hL, hOUT]; simp; omega
          have hadd1 := fun W => string_add Try.prog (putAll xs) (putB ys) (by have := HL3.out; have := HBL.out; have := HN2.out; omega) W
          have hadd2 := fun W => string_add Try.prog (putAll xs ++ putB ys) ys (by have := HL3.out; have := HBL.out; have := HN2.out; simp; omega) W
          rw [← hOUT] at hadd2
          have kcB : ∀ W : World, Mods Nil w6 W → (convert 23 9 (.slice A2 n2 c2)).run Try.prog W = .ok (.string (strOf ys)) W := fun W hW => run_string_sl W 23 5 Try.underlying23 Try.underlying5 A2 n2 c2 _ HN2.out (HS2.out.mods (M6.out.trans hW) (fun _ _ h => h)) 9 Try.underlying9
          have hq0 : Mods Nil w6 w6.drew := (Mods.refl Nil w6).drew
          have hyl : ys.length ≤ 140737488355328 := by have := HN2.out; omega
          have HYL := Lib.hid hyl
          have HL1 := Lib.hid hL1
          have HLL := Lib.hid hL
          clear hOUT h6 hL hL1 hyl
          go_region_held (fun W => Mods Nil w6 W) (first | exact (Mods.refl Nil w6).drew | assumption) (first
            | (go_at_call_of 15 (Value.pointer none); refine (out_nil _).mono ?_; rintro e w9 ⟨rfl, rfl⟩)
            | (go_at_call 15; refine (out_any HLL.out (by have := HL1.out; have := HLL.out; omega) (HO6.out.mods (S := Nil) (by first | exact (Mods.refl Nil w6).drew | assumption) (fun h => h) (fun _ _ h => h))).mono ?_; rintro e w7 ⟨A7, c7, rfl, s7, b7, m7⟩; have hq7 : Mods Nil w6 w7 := Mods.trans (by first | exact (Mods.refl Nil w6).drew | assumption) m7; have hr7 := Mods.refl Nil w7; have kcO : ∀ W : World, Mods Nil w7 W → (convert 23 9 (.slice A7 L c7)).run Try.prog W = .ok (.string (strOf OUT)) W := (fun W hW => run_string_sl W 23 5 Try.underlying23 Try.underlying5 A7 L c7 _ HLL.out (s7.mods hW (fun _ _ h => h)) 9 Try.underlying9); clear s7 b7)
            | (go_at_call 16; refine (rbytes_any ys HYL.out _).mono ?_; rintro e w8 ⟨rfl, m8⟩; have hq8 : Mods Nil w6 w8 := Mods.trans (by first | exact (Mods.refl Nil w6).drew | assumption) m8))
          all_goals
            go_wp2
            go_ret
            refine ⟨rfl, M6.out.trans ?_⟩
            assumption
end Go.Proofs.Ytkamikmamhbjcaa
