/- NumsBack's walk. -/
import Derived.Test.YtkamikmamhbjcaaAwake1
import Derived.Test.YtkamikmamhbjcaaPlain2
import Derived.Test.YtkamikmamhbjcaaOpen
namespace Go.Proofs.Ytkamikmamhbjcaa
open Go.RowKit

theorem infoInt : (Try.prog.info? 3).map (fun i => (i.zero, i.size, i.bytes)) = some (some (.int .i64 0), 1, 8) := by kernel_rfl
theorem nums_get (xs : List Nat) (j : Nat) (h : j < xs.length) : (nums xs)[j]? = some (.int .u64 (xs[j] : Nat)) := by simp [nums, h]
@[simp] theorem nums_length (xs : List Nat) : (nums xs).length = xs.length := by simp [nums]

set_option maxRecDepth 100000 in
set_option maxHeartbeats 3200000 in
theorem numsBack_walk (w : World) {A : Option Addr} {c n : Nat} {xs : List Nat} (hn : xs.length = n) (hs : Sl w A c (nums xs)) (hx : ∀ x ∈ xs, x < 18446744073709551616) {at_ : Int} (hwf : (Lit.int .u16 at_).wf = true) :
    Calls Try.prog 5 #[.slice A n c, .int .u16 at_] w fun e w' => e = .returned (.bool true) ∧ Mods Nil w w' := by
  obtain ⟨hm0, hm1⟩ := u16_of_wf hwf
  have hmx := hs.max
  have hle := hs.le
  unfold maxLen at hmx
  simp at hle
  clear hwf
  obtain ⟨i0, hi, hz0, hz1, hz2⟩ := info_parts infoInt
  by_cases hbig : 40 < n
  · have hb : (40 : Int) < (n : Int) := by omega
    clear hs
    go_enter Try.func5, Try.ntmps5
    go_wp2_with (first | (go_at_call 9; refine (awake_any _).mono ?_; rintro e w1 ⟨rfl, m1⟩; have M1 := Lib.hid m1; clear m1))
    go_ret
    exact ⟨rfl, M1.out⟩
  · have hb : ¬ (40 : Int) < (n : Int) := by omega
    have HS := Lib.hid hs
    have HN := Lib.hid hn
    have HX := Lib.hid hx
    have hpl : (putAll xs).length ≤ 9 * xs.length := putAll_length xs hx
    have HPL := Lib.hid hpl
    have HPM := Lib.hid (fun j => putAll_mono xs (i := j) (j := j + xs.length) (by omega))
    have hplj : ∀ j, (putAll (xs.take j)).length ≤ 360 := fun j => by
      have := putAll_mono xs (i := j) (j := j + xs.length) (by omega)
      rw [List.take_of_length_le (i := j + xs.length) (by omega)] at this
      omega
    have HPJ := Lib.hid hplj
    clear hs hn hx hpl hplj HPM
    go_enter Try.func5, Try.ntmps5
    go_wp2_with (first
      | (go_at_call 9; refine (awake_any _).mono ?_; rintro e w1 ⟨rfl, m1⟩; have M1 := Lib.hid m1; clear m1)
      | (go_at_call 10; refine (newWriter_any _).mono ?_; rintro e w2 ⟨rfl, h2, m2⟩; have H2 := Lib.hid h2; have M2 := Lib.hid (M1.out.trans m2); clear h2 m2))
    obtain ⟨B, hB⟩ : ∃ B, B = w1.heap.size := ⟨_, rfl⟩
    rw [← hB] at H2
    have hBw : w.heap.size ≤ B := by rw [hB]; exact M1.out.size
    rw [← hB]
    clear hB
    have HBW := Lib.hid hBw
    clear hBw
    go_loopw [7, 8] (fun ve i wr => ∃ (j : Nat) (v : Value), j ≤ n ∧ i = .int .i64 j ∧ IsWriter wr B B v (putAll (xs.take j)) ∧ wr.ownsRow w.heap.size 3 1 ve j (endsOf xs j) ∧ Mods Nil w wr) (fun _ i _ => n - (intOf i).toNat)
    case atStart => exact ⟨0, _, Nat.zero_le _, rfl, H2.out, World.ownsRow_nil _ _ _ _, M2.out⟩
    case round =>
      obtain ⟨j, v, hj, rfl, hwr, how, hmo⟩ := hrel
      have HWR := Lib.hid hwr
      have HM := Lib.hid hmo
      obtain ⟨Ae, ce, hve, he1, hse, hea⟩ := own_slice how
      subst hve
      have HO := Lib.hid how
      have HSE := Lib.hid hse
      have HEA : Hid (∀ a, Ae = some a → a.block < wr.heap.size) := fun a ha => (how.lt _ (hea a ha).1).2
      clear hwr hmo how hea he1 hse
      by_cases hlt : j < n
      · have hjl : j < xs.length := by have := HN.out; omega
        have hs3 := HS.out.mods HM.out (fun _ _ h => h)
        obtain ⟨b, off, rfl, hb4, hcell⟩ := hs3.at_ (by simp; omega)
        have hc1 : wr.cell? ⟨b, off + j, none⟩ = some (.int .u64 (xs[j] : Nat)) := hcell _ _ (nums_get xs j hjl)
        obtain ⟨x, hxx⟩ : ∃ x, x = xs[j] := ⟨_, rfl⟩
        have hx64 : x < 18446744073709551616 := by rw [hxx]; exact HX.out _ (List.getElem_mem hjl)
        have hsn := putAll_snoc xs j hjl
        rw [← hxx] at hc1 hsn
        have HSN := Lib.hid hsn
        have HX6 := Lib.hid hx64
        obtain ⟨L, hL⟩ : ∃ L, (putAll (xs.take (j + 1))).length = L := ⟨_, rfl⟩
        have hL3 : L ≤ 360 := by rw [← hL]; exact HPJ.out _
        have hLI : (0 : Int) ≤ (L : Int) := by omega
        have HL := Lib.hid hL
        have hje := endsOf_succ xs j
        rw [hL] at hje
        have HJE := Lib.hid hje
        clear hcell hs3 hjl hxx hx64 hsn hL hje
        go_wp2_with (first
          | (go_at_call 11; refine (wuint_any x HX6.out (by have := HPJ.out j; omega) HWR.out).mono ?_; rintro e w3 ⟨rfl, v3, h3, k3⟩; rw [← HSN.out] at h3; have H3 := Lib.hid h3; have M3 := Lib.hid (Wrote.nil_trans HM.out k3 HWR.out HBW.out); have HO3 := Lib.hid (own_mods HO.out k3.mods (fun k hk hs => hs.elim (fun e => own_blk_ne HO.out HWR.out.blk (by decide) (by rw [hk, e])) (fun e => own_own_ne HO.out HWR.out.own (by decide) hk e))); clear h3 k3)
          | (go_at_call 15; refine (out_any HL.out (by have := HPJ.out (j + 1); omega) H3.out).mono ?_; rintro e w4 ⟨A4, c4, rfl, s4, b4, m4⟩; have H4 := Lib.hid (H3.out.mods m4 (fun h => h) (fun _ _ h => h)); have HO4 := Lib.hid (own_mods HO3.out m4 (fun _ _ h => h)); have M4 := Lib.hid (M3.out.trans m4); clear s4 b4 m4)
          | (at_builtin; refine wpList_append_sl _ rfl (.tmp 33) (.tmp 37) 50 rfl w.heap.size 3 i0 (.int .i64 0) 8 Try.underlying50 hi hz0 hz1 hz2 rfl (.slice Ae j ce) j (endsOf xs j) rfl (HO4.out.alloc _) (some ⟨w4.heap.size, 0, none⟩) 1 1 [.int .i64 (L : Int)] rfl rfl (one_sl _ _ _) (one_oneCell _ _) (by omega) (by unfold maxLen; omega) (Nat.le_trans M4.out.size (by simp)) ?_; intro v5 w5 hown hgrow hblk; rw [← HJE.out] at hown; have mg : Mods (fun k => (Value.slice Ae j ce).ownBlock = some k) (w4.alloc (.cells #[.int .i64 (L : Int)] 3)) w5 := (Mods.refl _ _).grown hgrow (fun k hk _ => hk); have H5 := Lib.hid ((H4.out.alloc _).mods mg (own_blk_ne HO4.out H4.out.blk (by decide)) (fun k hk e => own_own_ne H4.out.own HO4.out (by decide) hk e)); have M5 := Lib.hid ((M4.out.alloc _).nil_trans mg (fun k hk => (HO4.out.lt k hk).1)); have HO5 := Lib.hid hown; clear hown hgrow hblk mg))
        exact ⟨⟨j + 1, _, by omega, by go_num, H5.out, HO5.out, M5.out⟩, by simp [intOf]; omega⟩
      · obtain rfl : j = n := by omega
        have hfull : putAll (xs.take j) = putAll xs := by rw [List.take_of_length_le (by have := HN.out; omega)]
        have hwr2 := HWR.out
        rw [hfull] at hwr2
        have HW2 := Lib.hid hwr2
        obtain ⟨L, hL⟩ : ∃ L, (putAll xs).length = L := ⟨_, rfl⟩
        have hL3 : L ≤ 360 := by have := HPL.out; have := HN.out; omega
        have hLI : (0 : Int) ≤ (L : Int) := by omega
        obtain ⟨k, hk⟩ : ∃ k : Nat, at_ % ((L : Int) + 1) = (k : Int) := ⟨(at_ % ((L : Int) + 1)).toNat, by have := Int.emod_nonneg at_ (show (L : Int) + 1 ≠ 0 by omega); omega⟩
        have hkL : k ≤ L := by have := Int.emod_lt_of_pos at_ (show (0 : Int) < (L : Int) + 1 by omega); omega
        have HL := Lib.hid hL
        clear hfull hwr2 hL hlt hj
        go_wp2_with (first
          | (go_at_call 15; refine (out_any HL.out (by have := HL.out; omega) HW2.out).mono ?_; rintro e w6 ⟨A6, c6, rfl, s6, b6, m6⟩; have hkc : (k : Int) ≤ (c6 : Int) := (by have h9 := s6.le; rw [bts_length, HL.out] at h9; omega); have S6 := Lib.hid s6; have M6 := Lib.hid (HM.out.trans m6); have Z6 := Lib.hid m6.size; have E6 := Lib.hid (HSE.out.mods m6 (fun _ _ h => h)); clear s6 b6 m6)
          | (go_at_call 17; refine (newReader_any (n := k) (xs := (putAll xs).take k) (by have := HL.out; simp; omega) (by have := HL.out; simp; omega) (by have := S6.out.take k; rwa [bts_take] at this)).mono ?_; rintro e w7 ⟨g, kk, rfl, h7, g7, k7, m7⟩; have H7 := Lib.hid h7; have G7 := Lib.hid (Nat.le_trans Z6.out g7); have E7 := Lib.hid (E6.out.mods m7 (fun _ _ h => h)); have M7 := Lib.hid (M6.out.trans m7); clear h7 g7 k7 m7))
        have HOFF : Hid (Off (· = g) Ae) := fun a ha e => by have := HEA.out a ha; have := G7.out; omega
        have HGW : Hid (w.heap.size ≤ g) := Nat.le_trans HM.out.size G7.out
        go_loopw [12] (fun i wq => ∃ (q : Nat), q ≤ j ∧ i = .int .i64 q ∧ IsReader wq g kk 0 (restOf xs k q) ∧ (putAll (xs.take q)).length ≤ k ∧ Sl wq Ae ce (endsOf xs j) ∧ Mods Nil w wq) (fun i _ => j - (intOf i).toNat)
        case atStart => exact ⟨0, Nat.zero_le _, rfl, by rw [restOf_zero]; exact H7.out, Nat.zero_le _, E7.out, M7.out⟩
        case round =>
          obtain ⟨q, hq, rfl, hr, hqk, hse2, hmo2⟩ := hrel
          have HR := Lib.hid hr
          have HQK := Lib.hid hqk
          have HE2 := Lib.hid hse2
          have HM2 := Lib.hid hmo2
          clear hr hqk hse2 hmo2
          by_cases hlt : q < j
          · have hql : q < xs.length := by have := HN.out; omega
            obtain ⟨E, hE⟩ : ∃ E, (putAll (xs.take (q + 1))).length = E := ⟨_, rfl⟩
            have HE := Lib.hid hE
            have hs3 := HS.out.mods HM2.out (fun _ _ h => h)
            obtain ⟨b, off, rfl, hb4, hcell⟩ := hs3.at_ (by simp; omega)
            obtain ⟨x, hxx⟩ : ∃ x, x = xs[q] := ⟨_, rfl⟩
            have hrl := restOf_le xs k q
            have HRL := Lib.hid hrl
            by_cases hkE : k < E
            · have HRU := Lib.hid (restOf_short xs k q hql HQK.out (by rw [hE]; exact hkE) HX.out)
              clear hs3 hcell hxx hE hrl hql
              go_wp2_with (first
                | (go_at_call 18; refine (uint_any (by have := HRL.out; have := HL.out; omega) HR.out).mono ?_; rintro e w8 ⟨he, h8, m8⟩; simp only [HRU.out] at he h8; subst he; have H8 := Lib.hid h8; have M8 := Lib.hid (HM2.out.nil_trans m8 (fun i hi => by subst hi; exact HGW.out)); have e8 := HE2.out.mods m8 HOFF.out; obtain ⟨be, offe, hAe, _, hcl⟩ := e8.at_ (by rw [endsOf_length]; omega); subst hAe; have hce := hcl q _ (endsOf_get xs j q hlt); rw [HE.out] at hce; clear h8 m8 e8 hcl)
                | (go_at_call 24; refine (err_any H8.out).mono ?_; rintro e w9 ⟨rfl, rfl⟩))
              go_ret
              exact ⟨rfl, M8.out⟩
            · have hEk : E ≤ k := by omega
              have HC1 : Hid (w.cell? ⟨b, off + q, none⟩ = some (.int .u64 (x : Nat))) := by
                have := HS.out.cells q _ (nums_get xs q hql)
                rw [hxx]; exact this
              have HRU : Hid (readUint 0 (restOf xs k q) = (0, restOf xs k (q + 1), x)) := by
                have := restOf_next xs k q hql (by rw [hE]; exact hEk) HX.out
                rw [← hxx] at this
                exact this
              have hbw : b < w.heap.size := HS.out.has.lt (by simp; omega)
              clear hs3 hcell hxx hE hrl hql
              go_wp2_with (first
                | (go_at_call 18; refine (uint_any (by have := HRL.out; have := HL.out; omega) HR.out).mono ?_; rintro e w8 ⟨he, h8, m8⟩; simp only [HRU.out] at he h8; subst he; have H8 := Lib.hid h8; have M8 := Lib.hid (HM2.out.nil_trans m8 (fun i hi => by subst hi; exact HGW.out)); have e8 := HE2.out.mods m8 HOFF.out; have E8 := Lib.hid e8; obtain ⟨be, offe, hAe, _, hcl⟩ := e8.at_ (by rw [endsOf_length]; omega); have hce := hcl q _ (endsOf_get xs j q hlt); rw [HE.out] at hce; subst hAe; have hcx : w8.cell? ⟨b, off + q, none⟩ = some (.int .u64 (x : Nat)) := (World.cell?_of_block (M8.out.block b hbw (fun h => h))).trans HC1.out; clear h8 m8 e8 hcl)
                | (go_at_call 24; refine (err_any H8.out).mono ?_; rintro e w9 ⟨rfl, rfl⟩))
              exact ⟨⟨q + 1, by omega, by go_num, H8.out, by rw [HE.out]; exact hEk, E8.out, M8.out⟩, by simp [intOf]; omega⟩
          · obtain rfl : q = j := by omega
            have hr := HR.out
            have hre : restOf xs k q = [] := by have := restOf_end xs k; rw [HN.out] at this; exact this
            rw [hre] at hr
            have HR3 := Lib.hid hr
            clear hr hre
            go_wp2_with (first
              | (go_at_call 25; refine (end_any HR3.out).mono ?_; rintro e w9 ⟨rfl, rfl⟩))
            go_ret
            exact ⟨rfl, HM2.out⟩
end Go.Proofs.Ytkamikmamhbjcaa
