/- CellAlone's walk. -/
import Derived.Test.YtgpnddgkbjlehaaAwake08
import Derived.Test.YtgpnddgkbjlehaaStr8
namespace Go.Proofs.Ytgpnddgkbjlehaa
set_option maxRecDepth 1000000
open Go.RowKit
set_option linter.unusedVariables false

set_option maxHeartbeats 6400000 in
theorem cellAlone_walk (w : World) {A : Option Addr} {c n : Nat} {l : List Row} (hn : l.length = n) (hs : Sl w A c (l.map Row.val)) (hr : ∀ r ∈ l, r.ok w) :
    Calls Try.prog 7 #[.slice A n c] w fun e w' => e = .returned (.bool true) ∧ Mods Nil w w' := by
  by_cases h20 : 20 < n
  · have hI : (20 : Int) < (n : Int) := by omega
    clear hn hs hr
    go_enter Try.func7, Try.ntmps7
    go_wp2_with (go_at_call 30; refine (awake8_any _).mono ?_; rintro e w1 ⟨rfl, m1⟩; have M1 := Lib.hid m1; clear m1)
    go_ret
    exact ⟨rfl, M1.out⟩
  have hI : (n : Int) ≤ 20 := by omega
  obtain ⟨ls, hls⟩ : ∃ ls, l.map (·.xs) = ls := ⟨_, rfl⟩
  have HN20 := Lib.hid (show n ≤ 20 by omega)
  have HROW := Lib.hid (fun j (hj : j < n) => in8_at hn hls hs hr hj)
  obtain ⟨i0, hi0, hz0, hz1, hz2⟩ := info_parts infoStr8
  clear hn hs hr hls h20
  go_enter Try.func7, Try.ntmps7
  go_wp2_with (first
    | (go_at_call 30; refine (awake8_any _).mono ?_; rintro e w1 ⟨rfl, m1⟩; have M1 := Lib.hid m1; clear m1)
    | (go_at_call 10; refine (lnew w1 (base := w.heap.size) (n := 5) (k := 5) M1.out.size rfl (by omega) (by omega)).mono ?_; rintro e w2 ⟨db, rfl, d2, m2⟩; have D2 := Lib.hid d2; have M2 := Lib.hid (M1.out.trans m2); clear d2 m2)
    | (go_at_call 31; refine (a8new (at_ := 2) (i := 2) D2.out M2.out.size (by omega) (by omega) rfl).mono ?_; rintro e w3 ⟨cb, rfl, a3, m3⟩; have A3 := Lib.hid a3; have M3 := Lib.hid (M2.out.trans m3); clear a3 m3))
  go_loopw [8] (fun x wr => ∃ (i : Nat) (L : List (List UInt8)) (k : PCell), i ≤ n ∧ x = .int .i64 (i : Int) ∧ At8 wr w.heap.size cb db 2 L k ∧ k.great = i ∧ k.spare = i % 2 ∧ L.length = 5 ∧ Mods Nil w wr) (fun x _ => n - (intOf x).toNat)
  case atStart => exact ⟨0, _, cellNew 2, Nat.zero_le _, rfl, A3.out, rfl, rfl, by simp, M3.out⟩
  case round =>
    clear A3
    obtain ⟨i, L, k, hi, rfl, ha, hg, hsp, hL5, hmo⟩ := hrel
    have HA := Lib.hid ha
    have HG := Lib.hid hg
    have HSP := Lib.hid hsp
    have HL5 := Lib.hid hL5
    have HMO := Lib.hid hmo
    clear ha hg hmo hsp hL5
    by_cases hlt : i < n
    · have hltI : (i : Int) < (n : Int) := by omega
      have w6 : IntKind.i64.wrap ((i : Int) + 1) = (i : Int) + 1 := by rw [IntKind.wrap_i64]; have := HN20.out; omega
      obtain ⟨b, off, r, rfl, hrow, hrok, hblt, hcell⟩ := HROW.out i hlt
      obtain ⟨q, hq⟩ : ∃ q, r.xs.length = q := ⟨_, rfl⟩
      rw [hq] at hcell
      have c0 := (World.cell?_of_block (HMO.out.block b hblt (fun h => h))).trans hcell
      have HROK := Lib.hid hrok
      have HQ := Lib.hid hq
      by_cases h43 : 43 < q
      · have h43I : (43 : Int) < (q : Int) := by omega
        clear hrok hrow hcell hq h43
        go_wp2_with fail
        go_ret
        exact ⟨rfl, HMO.out⟩
      have h43I : (q : Int) ≤ 43 := by omega
      have H43 := Lib.hid (show q ≤ 43 by omega)
      have HG1 : Hid (k.great + 1 < 18446744073709551616) := Lib.hid (by have := HG.out; have := HN20.out; omega)
      have CROW : Hid (∀ W, Mods Nil w W → W.cell? ⟨b, off + i, none⟩ = some (.slice r.A q r.c)) := Lib.hid (fun W h => (World.cell?_of_block (h.block b hblt (fun h => h))).trans hcell)
      have HG2 : Hid ((k.tell r.xs).great = i + 1) := Lib.hid (by show k.great + 1 = _; rw [HG.out])
      have HSP2 : Hid ((k.tell r.xs).spare = (i + 1) % 2) := Lib.hid (by show 1 - k.spare = _; rw [HSP.out]; omega)
      obtain ⟨bl, hbl⟩ : ∃ bl, layC (k.great + 1) r.xs = bl := ⟨_, rfl⟩
      have HNE : Hid (∀ j, j = 2 + i % 2 → bl ≠ L.getD j []) := Lib.hid (fun j hj => by
        rw [← hbl]
        have := tell_ne HA.out.op (s := r.xs) HG1.out
        rcases (show i % 2 = 0 ∨ i % 2 = 1 by omega) with h | h <;> rw [h] at hj <;> subst hj
        · exact this.1
        · exact this.2)
      obtain ⟨L2, hL2⟩ : ∃ L2, L.set (2 + k.spare) bl = L2 := ⟨_, rfl⟩
      have HSET : Hid (∀ V, At8 V w.heap.size cb db 2 L k → Mods Nil w V → Calls Try.prog 33 #[.pointer (some ⟨cb, 0, none⟩), .slice r.A q r.c] V fun e w' => e = .returned (.int .i64 0) ∧ At8 w' w.heap.size cb db 2 L2 (k.tell r.xs) ∧ CM w.heap.size V w') := Lib.hid (fun V hV hm => by
        have := a8set hV (HROK.out.mods hm) hq (by omega) HG1.out
        rw [hbl, hL2] at this
        exact this)
      have HL25 : Hid (L2.length = 5) := Lib.hid (by rw [← hL2, List.length_set]; exact HL5.out)
      have HEQ : Hid (∀ j, j < 5 → j ≠ 2 + i % 2 → L2.getD j [] = L.getD j []) := Lib.hid (fun j hj hne => by
        rw [← hL2, HSP.out, List.getD_eq_getElem?_getD, List.getElem?_set_ne (by omega), List.getD_eq_getElem?_getD])
      have HBL : Hid (L2.getD (2 + i % 2) [] = bl) := Lib.hid (by
        rw [← hL2, HSP.out, List.getD_eq_getElem?_getD, List.getElem?_set_self (by rw [HL5.out]; omega)]
        rfl)
      have hand := i64_and1c i (by have := HN20.out; omega)
      clear hrok hrow hcell hq h43 hbl hL2
      go_wp2_with fail
      go_loopw [9, 10] (fun v x wq => ∃ (j : Nat), j ≤ 5 ∧ x = .int .i64 (j : Int) ∧ wq.ownsRow w.heap.size 9 1 v j (str8 (L.take j)) ∧ At8 wq w.heap.size cb db 2 L k ∧ Mods Nil w wq) (fun _ x _ => 5 - (intOf x).toNat)
      case atStart => exact ⟨0, by omega, rfl, World.ownsRow_nil _ _ _ _, HA.out, HMO.out⟩
      case round =>
        obtain ⟨j, hj, rfl, hown, ha, hmo⟩ := hrel
        have HO := Lib.hid hown
        have HA1 := Lib.hid ha
        have HM1 := Lib.hid hmo
        clear hown ha hmo
        by_cases hlj : j < 5
        · have hljI : (j : Int) < 5 := by omega
          have w7 : IntKind.i64.wrap ((j : Int) + 1) = (j : Int) + 1 := by rw [IntKind.wrap_i64]; omega
          obtain ⟨bj, hbj⟩ : ∃ bj, L.getD j [] = bj := ⟨_, rfl⟩
          have HRD := Lib.hid (lread HA1.out.disk (i := (j : Int)) (b := bj) (by omega) (by rw [HL5.out]; omega) (by rw [← hbj]; rfl))
          have HTK : Hid (str8 (L.take j) ++ [.string (strOf bj)] = str8 (L.take (j + 1))) := Lib.hid (by
            rw [str8_snoc]
            congr 1
            rw [List.take_succ_eq_append_getElem (by rw [HL5.out]; exact hlj), ← hbj, List.getD_eq_getElem?_getD, List.getElem?_eq_getElem (by rw [HL5.out]; exact hlj)]
            rfl)
          clear c0 hbj
          go_wp2_with (first
            | (go_at_call 39; refine HRD.out.mono ?_; rintro e w5 ⟨A5, c5, m5, rfl, l5, rfl, s5, k5⟩; have v5 := conv8 l5 s5; have O5 := Lib.hid (own_mods HO.out k5 (fun _ _ h => h)); have A5' := Lib.hid (HA1.out.nil k5); have M5 := Lib.hid (HM1.out.trans k5); clear s5 k5 l5)
            | (at_builtin; refine wpList_append_sl _ rfl _ _ 28 rfl w.heap.size 9 i0 (.string ⟨#[]⟩) 16 Try.underlying28 hi0 hz0 hz1 hz2 rfl _ j (str8 (L.take j)) rfl (own_mods O5.out ((Mods.refl Nil w5).alloc _) (fun _ _ h => h)) (some ⟨w5.heap.size, 0, none⟩) 1 1 [.string (strOf bj)] rfl rfl (build_at (n := 1) rfl rfl rfl (by simp [maxLen])) (by simp [Value.oneCell']) (by omega) (by unfold maxLen; omega) (M5.out.alloc _).size ?_; intro v6 w6 hown hgrow hblk; rw [HTK.out] at hown; have O6 := Lib.hid hown; have q6 := (Mods.refl (fun k => u9.ownBlock = some k) (w5.alloc (.cells #[.string (strOf bj)] 9))).grown hgrow (fun k hk _ => hk); have A6 := Lib.hid ((A5'.out.nil ((Mods.refl Nil w5).alloc (.cells #[.string (strOf bj)] 9))).str q6 (fun k hk => (own_kind (own_mods O5.out ((Mods.refl Nil w5).alloc _) (fun _ _ h => h)) k hk).2)); have M6 := Lib.hid ((M5.out.alloc (.cells #[.string (strOf bj)] 9)).nil_trans q6 (fun k hk => (own_kind O5.out k hk).1)); clear hown hgrow hblk q6))
          exact ⟨⟨j + 1, by omega, by go_num, O6.out, A6.out, M6.out⟩, by simp [intOf]; omega⟩
        · obtain rfl : j = 5 := by omega
          have hk := own_kind HO.out
          obtain ⟨As, cs, rfl, -, hsl, hbl⟩ := own_slice HO.out
          rw [List.take_of_length_le (by rw [HL5.out]; omega)] at hsl
          obtain ⟨gs, os, rfl, -, -⟩ := hsl.at_ (by rw [str8_length, HL5.out]; omega)
          have IS : Hid (InStr wr (some ⟨gs, os, none⟩)) := Lib.hid (fun a ha => (hk _ (hbl a ha).1).2)
          have SS := Lib.hid hsl
          have c1 := CROW.out _ HM1.out
          obtain ⟨t, ht⟩ : ∃ t, 2 + i % 2 = t := ⟨_, rfl⟩
          have ht5 : t < 5 := by omega
          have hand2 : (2 : Int) + ((i % 2 : Nat) : Int) = (t : Int) := by omega
          have hand3 : IntKind.i64.wrap (t : Int) = (t : Int) := by rw [IntKind.wrap_i64]; omega
          rw [ht] at HNE HEQ HBL
          have HT5 := Lib.hid ht5
          clear hk hsl hbl HO c0 ht ht5
          go_wp2_with (first
            | (go_at_call 33; refine (HSET.out _ HA1.out HM1.out).mono ?_; rintro e w7 ⟨rfl, a7, m7⟩; have A7 := Lib.hid a7; have S7 := Lib.hid (sl_cm SS.out IS.out m7); have M7 := Lib.hid (CM.nilTrans HM1.out (Nat.le_refl _) m7); clear a7 m7))
          clear c1
          go_loopw [13, 14] (fun y x wz => ∃ (j : Nat), j ≤ 5 ∧ x = .int .i64 (j : Int) ∧ y = .int .i64 ((if t < j then 1 else 0 : Nat) : Int) ∧ At8 wz w.heap.size cb db 2 L2 (k.tell r.xs) ∧ Sl wz (some ⟨gs, os, none⟩) cs (str8 L) ∧ Mods Nil w wz) (fun _ x _ => 5 - (intOf x).toNat)
          case atStart => exact ⟨0, by omega, rfl, by simp, A7.out, S7.out, M7.out⟩
          case round =>
            obtain ⟨j, hj, rfl, rfl, ha, hss, hmo⟩ := hrel
            have HA2 := Lib.hid ha
            have HS2 := Lib.hid hss
            have HM2 := Lib.hid hmo
            clear ha hss hmo
            by_cases hlj : j < 5
            · have hljI : (j : Int) < 5 := by omega
              have w7 : IntKind.i64.wrap ((j : Int) + 1) = (j : Int) + 1 := by rw [IntKind.wrap_i64]; omega
              obtain ⟨bj, hbj⟩ : ∃ bj, L2.getD j [] = bj := ⟨_, rfl⟩
              obtain ⟨oj, hoj⟩ : ∃ oj, L.getD j [] = oj := ⟨_, rfl⟩
              have HRD := Lib.hid (lread HA2.out.disk (i := (j : Int)) (b := bj) (by omega) (by rw [HL25.out]; omega) (by rw [← hbj]; rfl))
              have CS2 : Hid (∀ V, Mods Nil wr V → V.cell? ⟨gs, os + j, none⟩ = some (.string (strOf oj))) := Lib.hid (fun V hV => by
                rw [← hoj]
                exact (HS2.out.mods hV (fun _ _ h => h)).cells j _ (str8_at (by rw [HL5.out]; exact hlj)))
              by_cases hjt : j = t
              · subst hjt
                have hne := strOf_ne (show bj ≠ oj by rw [← hbj, ← hoj, HBL.out]; exact HNE.out j rfl)
                have e0 : (if j < j then 1 else 0 : Nat) = 0 := by simp
                rw [e0]
                clear hbj hoj e0
                go_wp2_with (first
                  | (go_at_call 39; refine HRD.out.mono ?_; rintro e w8 ⟨A8, c8, m8, rfl, l8, rfl, s8, k8⟩; have v8 := fun nq => conv8 l8 (s8.drewN nq); have c8 := CS2.out w8 k8; have A8 := Lib.hid (HA2.out.nil k8); have S8 := Lib.hid (HS2.out.mods k8 (fun _ _ h => h)); have M8 := Lib.hid (HM2.out.trans k8); clear s8 k8 l8))
                go_quiet (fail)
                go_wp2_with fail
                exact ⟨⟨j + 1, by omega, by go_num, by simp, A8.out.nil ((Mods.refl Nil w8).drewN _), S8.out.drewN _, M8.out.drewN _⟩, by simp [intOf]; omega⟩
              · have hsame : bj = oj := by rw [← hbj, ← hoj]; exact HEQ.out j hlj hjt
                subst hsame
                have e0 : (if t < j then 1 else 0 : Nat) = (if t < j + 1 then 1 else 0 : Nat) := by
                  by_cases h : t < j
                  · rw [if_pos h, if_pos (by omega)]
                  · rw [if_neg h, if_neg (by omega)]
                have E0 := Lib.hid e0
                clear hbj hoj e0 hjt
                generalize (if t < j then 1 else 0 : Nat) = my at E0 ⊢
                go_wp2_with (first
                  | (go_at_call 39; refine HRD.out.mono ?_; rintro e w8 ⟨A8, c8, m8, rfl, l8, rfl, s8, k8⟩; have v8 := fun nq => conv8 l8 (s8.drewN nq); have c8 := CS2.out w8 k8; have A8 := Lib.hid (HA2.out.nil k8); have S8 := Lib.hid (HS2.out.mods k8 (fun _ _ h => h)); have M8 := Lib.hid (HM2.out.trans k8); clear s8 k8 l8))
                go_quiet (fail)
                go_wp2_with fail
                exact ⟨⟨j + 1, by omega, by go_num, by rw [E0.out], A8.out.nil ((Mods.refl Nil w8).drewN _), S8.out.drewN _, M8.out.drewN _⟩, by simp [intOf]; omega⟩
            · obtain rfl : j = 5 := by omega
              have e0 : (if t < 5 then 1 else 0 : Nat) = 1 := by rw [if_pos HT5.out]
              rw [e0]
              clear e0
              go_wp2_with fail
              exact ⟨⟨i + 1, L2, _, hlt, by go_num, HA2.out, HG2.out, HSP2.out, HL25.out, HM2.out⟩, by simp [intOf]; omega⟩
    · obtain rfl : i = n := by omega
      have HWT := Lib.hid (lwaits HA.out.disk (k := 0) (by simp))
      go_wp2_with (first
        | (go_at_call 40; refine HWT.out.mono ?_; rintro e w5 ⟨rfl, rfl⟩))
      go_ret
      exact ⟨rfl, HMO.out⟩
end Go.Proofs.Ytgpnddgkbjlehaa
