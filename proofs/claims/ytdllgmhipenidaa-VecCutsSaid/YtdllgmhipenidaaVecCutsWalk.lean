/- VecCuts' walk. -/
import Derived.Test.YtdllgmhipenidaaIn9
import Derived.Test.YtdllgmhipenidaaAwake09
namespace Go.Proofs.Ytdllgmhipenidaa
set_option maxRecDepth 1000000
open Go.RowKit
set_option linter.unusedVariables false
set_option linter.unusedSimpArgs false

theorem vat_pad (xs : List Nat) (k i : Nat) : vat (xs ++ List.replicate k 0) i = vat xs i := by
  rw [vat_append]
  split
  · rfl
  · rename_i h
    rw [vat_replicate, vat_ge (by omega)]
theorem leB_refl' {xs ys : List Nat} (h : ∀ i, vat xs i = vat ys i) : leB xs ys = true := leB_iff.2 (fun i => Nat.le_of_eq (h i))
theorem rem6 (y : Nat) (h : y < 256) : IntKind.u8.wrap ((y : Int).tmod 6) = ((y % 6 : Nat) : Int) := by
  rw [IntKind.wrap_u8, Int.tmod_eq_emod_of_nonneg (by omega)]
  omega
set_option maxHeartbeats 6400000 in
theorem vecCuts_walk (w : World) {A : Option Addr} {c n : Nat} {xs : List Nat} (hn : xs.length = n) (hs : Sl w A c (nums xs)) (hx : ∀ n ∈ xs, n < 18446744073709551616) {b : Int} (wf : (Lit.int .u8 b).wf = true) :
    Calls Try.prog 10 #[.slice A n c, .int .u8 b] w fun e w' => e = .returned (.bool true) ∧ Mods Nil w w' := by
  obtain ⟨i0, hi, hz0, hz1, hz2⟩ := info_parts infoV64
  have HS := Lib.hid hs
  have HN := Lib.hid hn
  have HBX := Lib.hid (Bd.of hx)
  obtain ⟨y, rfl⟩ : ∃ y : Nat, b = (y : Int) := ⟨b.toNat, by have := u8_of_wf wf; omega⟩
  have hrem := rem6 y (by have := u8_of_wf wf; omega)
  obtain ⟨K, hK⟩ : ∃ K, y % 6 = K := ⟨_, rfl⟩
  have hK6 : K < 6 := by omega
  rw [hK] at hrem
  have hrem2 : (y : Int).tmod 6 = (K : Int) := by
    rw [Int.tmod_eq_emod_of_nonneg (by omega)]
    omega
  clear hn hs hx hK wf
  by_cases h40 : 40 < n
  · have h40I : decide ((40 : Int) < (n : Int)) = true := by simp; omega
    go_enter Try.func10, Try.ntmps10
    go_wp2_with (go_at_call 42; refine (awake9_any _).mono ?_; rintro e w1 ⟨rfl, m1⟩; have M1 := Lib.hid m1; clear m1)
    go_ret
    exact ⟨rfl, M1.out⟩
  have h40I : decide ((40 : Int) < (n : Int)) = false := by simp; omega
  go_enter Try.func10, Try.ntmps10
  go_wp2_with (first
    | (go_at_call 42; refine (awake9_any _).mono ?_; rintro e w1 ⟨rfl, m1⟩; have M1 := Lib.hid m1; clear m1)
    | (at_builtin; refine wpList_append_sl _ rfl _ _ 83 rfl w.heap.size 37 i0 (.int .u64 0) 8 Try.underlying83 hi hz0 hz1 hz2 rfl (.slice none 0 0) 0 [] rfl (World.ownsRow_nil _ _ _ _) A n c (nums xs) rfl (by rw [nums_length, HN.out]) (HS.out.mods M1.out (fun _ _ h => h)) (nums_one xs) (by omega) (by unfold maxLen; omega) M1.out.size ?_; intro v' w2 hown hgrow _; rw [Nat.zero_add, List.nil_append] at hown; obtain ⟨A2, c2, rfl, e2, s2, b2⟩ := own_slice hown; have O2 := Lib.hid hown; have M2 := Lib.hid (show Mods Nil w w2 from M1.out.trans ((Mods.refl Nil _).grown hgrow (fun q hq _ => by simp [Value.ownBlock] at hq))); clear hown hgrow e2 s2 b2))
  go_loopw [6, 7] (fun v x wr => ∃ (j k c3 : Nat) (A3 : Option Addr), j ≤ K ∧ x = .int .i64 (j : Int) ∧ k = n + j ∧ v = .slice A3 k c3 ∧ wr.ownsRow w.heap.size 37 1 (.slice A3 k c3) k (nums (xs ++ List.replicate j 0)) ∧ Mods Nil w wr) (fun _ x _ => K - (intOf x).toNat)
  case atStart => exact ⟨0, n, c2, A2, Nat.zero_le _, rfl, rfl, rfl, by rw [List.replicate_zero, List.append_nil]; exact O2.out, M2.out⟩
  case round =>
    clear M1 M2 O2
    obtain ⟨j, k, c3, A3, hj, rfl, hk, rfl, ho, hmo⟩ := hrel
    have HO := Lib.hid ho
    have HMO := Lib.hid hmo
    have HK := Lib.hid hk
    have hk46 : k ≤ 46 := by omega
    clear ho hmo hk
    by_cases hlt : j < K
    · have hjI : (j : Int) < (K : Int) := by omega
      go_wp2_with (at_builtin; refine wpList_append_sl _ rfl _ _ 83 rfl w.heap.size 37 i0 (.int .u64 0) 8 Try.underlying83 hi hz0 hz1 hz2 rfl _ k _ rfl (HO.out.alloc _) (some ⟨wr.heap.size, 0, none⟩) 1 1 [.int .u64 0] rfl rfl (build_at (n := 1) (by simp) rfl rfl (by decide)) (by simp [Value.oneCell']) (by omega) (by unfold maxLen; omega) (HMO.out.alloc _).size ?_; intro v' w3 hown hgrow _; obtain ⟨A5, c5, rfl, e5, s5, b5⟩ := own_slice hown; have O3 := Lib.hid hown; have M3 := Lib.hid (show Mods Nil w w3 from (HMO.out.alloc _).nil_trans ((Mods.refl (fun q => (Value.slice A3 k c3).ownBlock = some q) _).grown hgrow (fun q hq _ => hq)) (fun i h => (HO.out.lt i h).1)); clear hown hgrow e5 s5 b5)
      exact ⟨⟨j + 1, k + 1, c5, A5, by omega, by go_num, by have := HK.out; omega, rfl, by
        have h := O3.out
        rw [show [Value.int .u64 0] = nums [0] from rfl, ← nums_append, List.append_assoc, ← List.replicate_succ'] at h
        exact h, M3.out⟩, by simp [intOf]; omega⟩
    · obtain rfl : j = K := by omega
      obtain ⟨bs, hbs⟩ : ∃ bs, xs ++ List.replicate j 0 = bs := ⟨_, rfl⟩
      have hal : bs.length = k := by rw [← hbs, List.length_append, HN.out, List.length_replicate, HK.out]
      have hav : ∀ i, vat bs i = vat xs i := fun i => by rw [← hbs]; exact vat_pad xs j i
      obtain ⟨cs, hcs⟩ : ∃ cs, cut xs = cs := ⟨_, rfl⟩
      have hcas : cut bs = cs := by rw [← hcs]; exact cut_eq hav
      have hcv : ∀ i, vat cs i = vat xs i := fun i => by rw [← hcs]; exact vat_cut xs i
      obtain ⟨q, hq⟩ : ∃ q, cs.length = q := ⟨_, rfl⟩
      have hqn : q ≤ n := by rw [← hq, ← hcs, ← HN.out]; exact cut_le xs
      have HLAST := Lib.hid (show isCut cs by rw [← hcs]; exact cut_isCut xs)
      have SA := Lib.hid (show Sl wr A3 c3 (nums bs) by rw [← hbs]; exact own_sl HO.out)
      have HCA : Hid (Calls Try.prog 53 #[.slice A3 k c3] wr (ToldV wr cs)) := Lib.hid (by have h := tcut hal (by omega) SA.out; rw [hcas] at h; exact h)
      have HCX : Hid (∀ V, Mods Nil w V → Calls Try.prog 53 #[.slice A n c] V (ToldV V cs)) := Lib.hid (fun V hV => by have h := tcut HN.out (by omega) (HS.out.mods hV (fun _ _ h => h)); rw [hcs] at h; exact h)
      have HS1 : Hid (∀ V A1 c1, Sl V A1 c1 (nums bs) → Mods Nil w V → Calls Try.prog 50 #[.slice A1 k c1, .slice A n c] V fun e w' => e = .returned (.bool true) ∧ Mods Nil V w') := Lib.hid (fun V A1 c1 h1 hV => by have h := same_any V hal (by omega) h1 HN.out (by omega) (HS.out.mods hV (fun _ _ h => h)); rw [sameB_iff.2 hav] at h; exact h)
      have HS2 : Hid (∀ V A1 c1, Sl V A1 c1 (nums cs) → Mods Nil w V → Calls Try.prog 50 #[.slice A1 q c1, .slice A n c] V fun e w' => e = .returned (.bool true) ∧ Mods Nil V w') := Lib.hid (fun V A1 c1 h1 hV => by have h := same_any V hq (by omega) h1 HN.out (by omega) (HS.out.mods hV (fun _ _ h => h)); rw [sameB_iff.2 hcv] at h; exact h)
      have HL1 : Hid (∀ V A1 c1 A2 c2, Sl V A1 c1 (nums bs) → Sl V A2 c2 (nums cs) → Calls Try.prog 49 #[.slice A1 k c1, .slice A2 q c2] V fun e w' => e = .returned (.bool true) ∧ Mods Nil V w') := Lib.hid (fun V A1 c1 A2 c2 h1 h2 => by have h := le_any V hal (by omega) h1 hq h2; rw [leB_refl' (fun i => by rw [hav, hcv])] at h; exact h)
      have HL2 : Hid (∀ V A1 c1 A2 c2, Sl V A1 c1 (nums bs) → Sl V A2 c2 (nums cs) → Calls Try.prog 49 #[.slice A2 q c2, .slice A1 k c1] V fun e w' => e = .returned (.bool true) ∧ Mods Nil V w') := Lib.hid (fun V A1 c1 A2 c2 h1 h2 => by have h := le_any V hq (by omega) h2 hal h1; rw [leB_refl' (fun i => by rw [hav, hcv])] at h; exact h)
      have hqnI : (q : Int) ≤ (n : Int) := by omega
      have HQ := Lib.hid hq
      clear hbs hal hav hcs hcas hcv hq HS HBX HO
      by_cases h0 : q = 0
      · subst h0
        go_wp2_with (first
          | (go_at_call 49; have hx := M7.out; clear hx; refine (HL2.out _ _ _ _ _ SA7.out SC7.out).mono ?_; rintro e w8 ⟨rfl, m8⟩; have M8 := Lib.hid (M7.out.trans m8); clear m8)
          | (go_at_call 49; have hx := M6.out; clear hx; refine (HL1.out _ _ _ _ _ SA6.out SC6.out).mono ?_; rintro e w7 ⟨rfl, m7⟩; have M7 := Lib.hid (M6.out.trans m7); have SA7 := Lib.hid (SA6.out.mods m7 (fun _ _ h => h)); have SC7 := Lib.hid (SC6.out.mods m7 (fun _ _ h => h)); clear m7)
          | (go_at_call 50; have hx := M5.out; clear hx; refine (HS2.out _ _ _ SC5.out M5.out).mono ?_; rintro e w6 ⟨rfl, m6⟩; have M6 := Lib.hid (M5.out.trans m6); have SA6 := Lib.hid (SA5.out.mods m6 (fun _ _ h => h)); have SC6 := Lib.hid (SC5.out.mods m6 (fun _ _ h => h)); clear m6)
          | (go_at_call 50; refine (HS1.out _ _ _ SA4.out M4.out).mono ?_; rintro e w5 ⟨rfl, m5⟩; have M5 := Lib.hid (M4.out.trans m5); have SA5 := Lib.hid (SA4.out.mods m5 (fun _ _ h => h)); have SC5 := Lib.hid (SC4.out.mods m5 (fun _ _ h => h)); clear m5)
          | (go_at_call 53; have hx := M3.out; clear hx; refine (HCX.out _ M3.out).mono ?_; rintro e w4 ⟨A9, c9, n9, rfl, l9, s9, m4⟩; obtain rfl : n9 = 0 := l9.symm.trans HQ.out; have M4 := Lib.hid (M3.out.trans m4); have SA4 := Lib.hid (SA3.out.mods m4 (fun _ _ h => h)); have SC4 := Lib.hid (SC3.out.mods m4 (fun _ _ h => h)); clear m4 l9 s9)
          | (go_at_call 53; refine (HCA.out).mono ?_; rintro e w3 ⟨A8, c8, n8, rfl, l8, s8, m3⟩; obtain rfl : n8 = 0 := l8.symm.trans HQ.out; have M3 := Lib.hid (HMO.out.trans m3); have SC3 := Lib.hid s8; have SA3 := Lib.hid (SA.out.mods m3 (fun _ _ h => h)); clear l8 s8 m3))
        go_ret
        exact ⟨rfl, M8.out⟩
      · have h0I : ((q : Int) == 0) = false := by rw [beq_eq_false_iff_ne]; omega
        obtain ⟨p, hp⟩ : ∃ p, q = p + 1 := ⟨q - 1, by omega⟩
        have hpI : (q : Int) - 1 = (p : Int) := by omega
        have hpq : (p : Int) < (q : Int) := by omega
        have HP := Lib.hid hp
        clear hp h0
        go_wp2_with (first
          | (go_at_call 49; have hx := M7.out; clear hx; refine (HL2.out _ _ _ _ _ SA7.out SC7.out).mono ?_; rintro e w8 ⟨rfl, m8⟩; have M8 := Lib.hid (M7.out.trans m8); have SC8 := Lib.hid (SC7.out.mods m8 (fun _ _ h => h)); obtain ⟨b9, o9, hA9, p9, q9⟩ := sl_num SC8.out (j := p) (by rw [HQ.out, HP.out]; omega); subst hA9; obtain ⟨z, hz⟩ : ∃ z, vat cs p = z := ⟨_, rfl⟩; rw [hz] at q9; have hz1 : ((z : Int) != 0) = true := (by rw [bne_iff_ne]; have h7 := HLAST.out p (by rw [HQ.out, HP.out]); rw [hz] at h7; omega); clear m8 p9 hz)
          | (go_at_call 49; have hx := M6.out; clear hx; refine (HL1.out _ _ _ _ _ SA6.out SC6.out).mono ?_; rintro e w7 ⟨rfl, m7⟩; have M7 := Lib.hid (M6.out.trans m7); have SA7 := Lib.hid (SA6.out.mods m7 (fun _ _ h => h)); have SC7 := Lib.hid (SC6.out.mods m7 (fun _ _ h => h)); clear m7)
          | (go_at_call 50; have hx := M5.out; clear hx; refine (HS2.out _ _ _ SC5.out M5.out).mono ?_; rintro e w6 ⟨rfl, m6⟩; have M6 := Lib.hid (M5.out.trans m6); have SA6 := Lib.hid (SA5.out.mods m6 (fun _ _ h => h)); have SC6 := Lib.hid (SC5.out.mods m6 (fun _ _ h => h)); clear m6)
          | (go_at_call 50; refine (HS1.out _ _ _ SA4.out M4.out).mono ?_; rintro e w5 ⟨rfl, m5⟩; have M5 := Lib.hid (M4.out.trans m5); have SA5 := Lib.hid (SA4.out.mods m5 (fun _ _ h => h)); have SC5 := Lib.hid (SC4.out.mods m5 (fun _ _ h => h)); clear m5)
          | (go_at_call 53; have hx := M3.out; clear hx; refine (HCX.out _ M3.out).mono ?_; rintro e w4 ⟨A9, c9, n9, rfl, l9, s9, m4⟩; obtain rfl : q = n9 := HQ.out.symm.trans l9; have M4 := Lib.hid (M3.out.trans m4); have SA4 := Lib.hid (SA3.out.mods m4 (fun _ _ h => h)); have SC4 := Lib.hid (SC3.out.mods m4 (fun _ _ h => h)); clear m4 l9 s9)
          | (go_at_call 53; refine (HCA.out).mono ?_; rintro e w3 ⟨A8, c8, n8, rfl, l8, s8, m3⟩; obtain rfl : q = n8 := HQ.out.symm.trans l8; have M3 := Lib.hid (HMO.out.trans m3); have SC3 := Lib.hid s8; have SA3 := Lib.hid (SA.out.mods m3 (fun _ _ h => h)); clear l8 s8 m3))
        go_ret
        exact ⟨rfl, M8.out⟩
end Go.Proofs.Ytdllgmhipenidaa
