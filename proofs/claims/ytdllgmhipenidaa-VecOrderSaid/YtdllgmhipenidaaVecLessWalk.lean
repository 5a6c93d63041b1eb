/- VecLess' walk. -/
import Derived.Test.YtdllgmhipenidaaVecSumsWalk
namespace Go.Proofs.Ytdllgmhipenidaa
set_option maxRecDepth 1000000
open Go.RowKit
set_option linter.unusedVariables false
set_option linter.unusedSimpArgs false

def sumTo (f : Nat → Nat) : Nat → Nat
  | 0 => 0
  | n + 1 => sumTo f n + f n
theorem sumTo_take (xs : List Nat) : ∀ n, n ≤ xs.length → sumTo (vat xs) n = total (xs.take n)
  | 0, _ => rfl
  | n + 1, h => by rw [total_take_succ xs n (by omega), ← sumTo_take xs n (by omega)]; rfl
theorem sumTo_far {f : Nat → Nat} {k : Nat} (h : ∀ i, k ≤ i → f i = 0) : ∀ n, k ≤ n → sumTo f n = sumTo f k
  | 0, hn => by obtain rfl : k = 0 := by omega
                rfl
  | n + 1, hn => by
    by_cases e : k = n + 1
    · subst e; rfl
    · show sumTo f n + f n = sumTo f k
      rw [sumTo_far h n (by omega), h n (by omega)]
      rfl
theorem sumTo_total (xs : List Nat) {n : Nat} (h : xs.length ≤ n) : sumTo (vat xs) n = total xs := by
  rw [sumTo_far (k := xs.length) (fun i hi => vat_ge hi) n h, sumTo_take xs xs.length (Nat.le_refl _), List.take_length]
theorem sumTo_add (f g : Nat → Nat) : ∀ n, sumTo (fun i => f i + g i) n = sumTo f n + sumTo g n
  | 0 => rfl
  | n + 1 => by
    show sumTo (fun i => f i + g i) n + (f n + g n) = (sumTo f n + f n) + (sumTo g n + g n)
    rw [sumTo_add f g n]; omega
theorem sumTo_congr {f g : Nat → Nat} (h : ∀ i, f i = g i) (n : Nat) : sumTo f n = sumTo g n := by
  rw [show f = g from funext h]
theorem total_add {xs ys zs : List Nat} (h : ∀ i, vat xs i + vat ys i = vat zs i) : total xs + total ys = total zs := by
  obtain ⟨N, hN⟩ : ∃ N, max xs.length (max ys.length zs.length) = N := ⟨_, rfl⟩
  rw [← sumTo_total xs (n := N) (by omega), ← sumTo_total ys (n := N) (by omega), ← sumTo_total zs (n := N) (by omega), ← sumTo_add]
  exact sumTo_congr h N
theorem maxL_two (A B : Option Addr) (c d : Nat) (xs ys : List Nat) (i : Nat) : vat (maxL [⟨A, c, xs⟩, ⟨B, d, ys⟩]) i = max (vat xs i) (vat ys i) := by
  rw [vat_maxL]
  simp [rowsOf, maxAt]
theorem minL_two (A B : Option Addr) (c d : Nat) (xs ys : List Nat) (i : Nat) : vat (minL [⟨A, c, xs⟩, ⟨B, d, ys⟩]) i = min (vat xs i) (vat ys i) := by
  rw [vat_minL]
  rfl
theorem bd_of_vat {xs : List Nat} {k : Nat} (hk : k < 18446744073709551616) (h : ∀ i, vat xs i ≤ k) : Bd xs := fun i => by have := h i; omega
theorem total_le_vat {xs : List Nat} {k : Nat} (h : ∀ i, vat xs i ≤ k) : total xs ≤ xs.length * k := total_le (fun x hx => by
  obtain ⟨i, hi, rfl⟩ := List.getElem_of_mem hx
  rw [← vat_lt hi]
  exact h i)
set_option maxHeartbeats 6400000 in
theorem vecLess_walk (w : World) {A : Option Addr} {c n : Nat} {xs : List Nat} (hn : xs.length = n) (hs : Sl w A c (nums32 xs)) (hx : ∀ n ∈ xs, n < 4294967296) {B : Option Addr} {d m : Nat} {ys : List Nat} (hm : ys.length = m) (hy : Sl w B d (nums32 ys)) (hyb : ∀ n ∈ ys, n < 4294967296) :
    Calls Try.prog 8 #[.slice A n c, .slice B m d] w fun e w' => e = .returned (.bool true) ∧ Mods Nil w w' := by
  obtain ⟨i0, hi, hz0, hz1, hz2⟩ := info_parts infoV64
  have HS := Lib.hid hs
  have HN := Lib.hid hn
  have HX := Lib.hid (fun x (h : x ∈ xs) => (by have := hx x h; omega : x ≤ 4294967295))
  have HY := Lib.hid hy
  have HM := Lib.hid hm
  have HYB := Lib.hid (fun x (h : x ∈ ys) => (by have := hyb x h; omega : x ≤ 4294967295))
  clear hn hs hx hm hy hyb
  by_cases h30 : 30 < n
  · have h30I : decide ((30 : Int) < (n : Int)) = true := by simp; omega
    go_enter Try.func8, Try.ntmps8
    go_wp2_with (go_at_call 42; refine (awake9_any _).mono ?_; rintro e w1 ⟨rfl, m1⟩; have M1 := Lib.hid m1; clear m1)
    go_ret
    exact ⟨rfl, M1.out⟩
  have h30I : decide ((30 : Int) < (n : Int)) = false := by simp; omega
  by_cases h31 : 30 < m
  · have h31I : decide ((30 : Int) < (m : Int)) = true := by simp; omega
    go_enter Try.func8, Try.ntmps8
    go_wp2_with (go_at_call 42; refine (awake9_any _).mono ?_; rintro e w1 ⟨rfl, m1⟩; have M1 := Lib.hid m1; clear m1)
    go_ret
    exact ⟨rfl, M1.out⟩
  have h31I : decide ((30 : Int) < (m : Int)) = false := by simp; omega
  go_enter Try.func8, Try.ntmps8
  go_wp2_with (go_at_call 42; refine (awake9_any _).mono ?_; rintro e w1 ⟨rfl, m1⟩; have M1 := Lib.hid m1; clear m1)
  go_loopw [6, 8] (fun v x wr => ∃ (j c3 : Nat) (A3 : Option Addr), j ≤ n ∧ x = .int .i64 (j : Int) ∧ v = .slice A3 j c3 ∧ wr.ownsRow w.heap.size 37 1 (.slice A3 j c3) j (nums (xs.take j)) ∧ Mods Nil w wr) (fun _ x _ => n - (intOf x).toNat)
  case atStart => exact ⟨0, 0, none, Nat.zero_le _, rfl, rfl, World.ownsRow_nil _ _ _ _, M1.out⟩
  case round =>
    clear M1
    obtain ⟨j, c3, A3, hj, rfl, rfl, ho, hmo⟩ := hrel
    have HO := Lib.hid ho
    have HMO := Lib.hid hmo
    have HMB := HMO
    clear ho hmo
    by_cases hlt : j < n
    · have hjI : (j : Int) < (n : Int) := by omega
      have hjl : j < xs.length := by rw [HN.out]; exact hlt
      obtain ⟨b, off, rfl, hb, hc⟩ := num32_at (HS.out.mods HMO.out (fun _ _ h => h)) (j := j) hjl
      obtain ⟨x, hx⟩ : ∃ x, vat xs j = x := ⟨_, rfl⟩
      have hxb : x ≤ 4294967295 := by rw [← hx]; exact vat_le HX.out j
      rw [hx] at hc
      have hcx := conv32 (x : Int) (by omega) (by omega)
      have HX2 := Lib.hid (show xs.take (j + 1) = xs.take j ++ [x] by rw [take_snoc_vat hjl, hx])
      clear hjl hx hb hxb
      go_wp2_with (at_builtin; refine wpList_append_sl _ rfl _ _ 83 rfl w.heap.size 37 i0 (.int .u64 0) 8 Try.underlying83 hi hz0 hz1 hz2 rfl _ j _ rfl (HO.out.alloc _) (some ⟨wr.heap.size, 0, none⟩) 1 1 [.int .u64 (x : Int)] rfl rfl (build_at (n := 1) (by simp) rfl rfl (by decide)) (by simp [Value.oneCell']) (by omega) (by unfold maxLen; omega) (HMB.out.alloc _).size ?_; intro v' w3 hown hgrow hmv; obtain ⟨A5, c5, rfl, e5, s5, b5⟩ := own_slice hown; have O3 := Lib.hid hown; have M3 := Lib.hid (show Mods Nil _ w3 from (HMB.out.alloc _).nil_trans ((Mods.refl (fun q => (Value.slice A3 j c3).ownBlock = some q) _).grown hgrow (fun q hq _ => hq)) (fun i h => (HO.out.lt i h).1)); clear hown hgrow hmv e5 s5 b5)
      exact ⟨⟨j + 1, c5, A5, by omega, by go_num, rfl, by rw [HX2.out, nums_append]; exact O3.out, M3.out⟩, by simp [intOf]; omega⟩
    · obtain rfl : j = n := by omega
      have hfull : xs.take j = xs := List.take_of_length_le (by rw [HN.out]; exact Nat.le_refl _)
      rw [hfull] at HO
      have SX := Lib.hid (own_sl HO.out)
      clear hfull HO HMB
      go_wp2_with fail
      obtain ⟨w9, hw9⟩ : ∃ w9, wr = w9 := ⟨_, rfl⟩
      rw [hw9] at SX HMO ⊢
      clear hw9
      obtain ⟨A9, hA9⟩ : ∃ A9, A3 = A9 := ⟨_, rfl⟩
      obtain ⟨c9, hc9⟩ : ∃ c9, c3 = c9 := ⟨_, rfl⟩
      rw [hA9, hc9] at SX ⊢
      clear hA9 hc9
      go_loopw [7, 9] (fun v x wr => ∃ (k c3 : Nat) (A3 : Option Addr), k ≤ m ∧ x = .int .i64 (k : Int) ∧ v = .slice A3 k c3 ∧ wr.ownsRow w9.heap.size 37 1 (.slice A3 k c3) k (nums (ys.take k)) ∧ Mods Nil w9 wr) (fun _ x _ => m - (intOf x).toNat)
      case atStart => exact ⟨0, 0, none, Nat.zero_le _, rfl, rfl, World.ownsRow_nil _ _ _ _, Mods.refl _ _⟩
      case round =>
        have HM9 := HMO
        clear HMO
        obtain ⟨k, c3, A3, hk, rfl, rfl, ho, hmo⟩ := hrel
        have HO := Lib.hid ho
        have HMB := Lib.hid hmo
        have HMO := Lib.hid (HM9.out.trans hmo)
        clear ho hmo
        by_cases hlt : k < m
        · have hjI : (k : Int) < (m : Int) := by omega
          have hjl : k < ys.length := by rw [HM.out]; exact hlt
          obtain ⟨b, off, rfl, hb, hc⟩ := num32_at (HY.out.mods HMO.out (fun _ _ h => h)) (j := k) hjl
          obtain ⟨x, hx⟩ : ∃ x, vat ys k = x := ⟨_, rfl⟩
          have hxb : x ≤ 4294967295 := by rw [← hx]; exact vat_le HYB.out k
          rw [hx] at hc
          have hcx := conv32 (x : Int) (by omega) (by omega)
          have HX2 := Lib.hid (show ys.take (k + 1) = ys.take k ++ [x] by rw [take_snoc_vat hjl, hx])
          clear hjl hx hb hxb
          go_wp2_with (at_builtin; refine wpList_append_sl _ rfl _ _ 83 rfl w9.heap.size 37 i0 (.int .u64 0) 8 Try.underlying83 hi hz0 hz1 hz2 rfl _ k _ rfl (HO.out.alloc _) (some ⟨wr.heap.size, 0, none⟩) 1 1 [.int .u64 (x : Int)] rfl rfl (build_at (n := 1) (by simp) rfl rfl (by decide)) (by simp [Value.oneCell']) (by omega) (by unfold maxLen; omega) (HMB.out.alloc _).size ?_; intro v' w3 hown hgrow hmv; obtain ⟨A5, c5, rfl, e5, s5, b5⟩ := own_slice hown; have O3 := Lib.hid hown; have M3 := Lib.hid (show Mods Nil _ w3 from (HMB.out.alloc _).nil_trans ((Mods.refl (fun q => (Value.slice A3 k c3).ownBlock = some q) _).grown hgrow (fun q hq _ => hq)) (fun i h => (HO.out.lt i h).1)); clear hown hgrow hmv e5 s5 b5)
          exact ⟨⟨k + 1, c5, A5, by omega, by go_num, rfl, by rw [HX2.out, nums_append]; exact O3.out, M3.out⟩, by simp [intOf]; omega⟩
        · obtain rfl : k = m := by omega
          have hfull : ys.take k = ys := List.take_of_length_le (by rw [HM.out]; exact Nat.le_refl _)
          rw [hfull] at HO
          have SY := Lib.hid (own_sl HO.out)
          have SX2 := Lib.hid (SX.out.mods HMB.out (fun _ _ h => h))
          have hxv := vat_le HX.out
          have hyv := vat_le HYB.out
          obtain ⟨zs, hzs⟩ : ∃ zs, maxL [⟨A9, c9, xs⟩, ⟨A3, c3, ys⟩] = zs := ⟨_, rfl⟩
          have hzv : ∀ i, vat zs i = max (vat xs i) (vat ys i) := fun i => by rw [← hzs]; exact maxL_two _ _ _ _ _ _ i
          have hzv2 : ∀ i, vat zs i ≤ 4294967295 := fun i => by have := hzv i; have := hxv i; have := hyv i; omega
          obtain ⟨q, hq⟩ : ∃ q, zs.length = q := ⟨_, rfl⟩
          have hq30 : q ≤ 30 := by rw [← hq, ← hzs]; exact maxL_length 30 (fun r hr => by simp at hr; have := HN.out; have := HM.out; rcases hr with rfl | rfl <;> (dsimp only; omega))
          have hle : leB xs zs = true := leB_iff.2 (fun i => by rw [hzv]; omega)
          obtain ⟨ls, hls⟩ : ∃ ls, lessL zs xs = ls := ⟨_, rfl⟩
          have hlv : ∀ i, vat ls i = vat zs i - vat xs i := fun i => by rw [← hls]; exact vat_lessL hle i
          have hlv2 : ∀ i, vat ls i ≤ 4294967295 := fun i => by have := hlv i; have := hzv2 i; omega
          have hll : ls.length ≤ 30 := by rw [← hls]; exact Nat.le_trans (lessL_length zs xs) (by omega)
          have hadd : ∀ i, vat ls i + vat xs i = vat zs i := fun i => by have := hlv i; have := hzv i; omega
          have htot : total xs + total ls = total zs := total_add (fun i => by have := hadd i; omega)
          have htz : total zs ≤ 30 * 4294967295 := Nat.le_trans (total_le_vat hzv2) (Nat.mul_le_mul_right _ (by omega))
          obtain ⟨t1, ht1⟩ : ∃ t, total xs = t := ⟨_, rfl⟩
          obtain ⟨t2, ht2⟩ : ∃ t, total ls = t := ⟨_, rfl⟩
          obtain ⟨t3, ht3⟩ : ∃ t, total zs = t := ⟨_, rfl⟩
          rw [ht1, ht2, ht3] at htot
          rw [ht3] at htz
          have hwt : IntKind.u64.wrap ((t1 : Int) + (t2 : Int)) = (t3 : Int) := by rw [IntKind.wrap_u64]; omega
          have hsx := sumV_of ht1 (by omega)
          have hsl := sumV_of ht2 (by omega)
          have hsz := sumV_of ht3 (by omega)
          have hbx : Bd xs := bd_of_vat (k := 4294967295) (by omega) hxv
          have hby : Bd ys := bd_of_vat (k := 4294967295) (by omega) hyv
          have hbz : Bd zs := bd_of_vat (k := 4294967295) (by omega) hzv2
          have hbl : Bd ls := bd_of_vat (k := 4294967295) (by omega) hlv2
          have hxl : xs.length ≤ 1000000 := by rw [HN.out]; omega
          have hyl : ys.length ≤ 1000000 := by rw [HM.out]; omega
          have HMAX : Hid (∀ V C, Mods Nil wr V → Sl V C 2 [.slice A9 j c9, .slice A3 k c3] → Calls Try.prog 57 #[.slice C 2 2] V (ToldV V zs)) := Lib.hid (fun V C hV hc => by
            have h := tmax (l := [⟨A9, c9, xs⟩, ⟨A3, c3, ys⟩]) (n := 2) rfl (by omega) (two_rows HN.out HM.out hc) (two_ok (SX2.out.mods hV (fun _ _ h => h)) (SY.out.mods hV (fun _ _ h => h)) hbx hby hxl hyl)
            rw [hzs] at h
            exact h)
          have HLESS : Hid (∀ V D e, Mods Nil wr V → Sl V D e (nums zs) → Calls Try.prog 45 #[.slice D q e, .slice A9 j c9] V (ToldE V ls 0)) := Lib.hid (fun V D e hV hd => by
            have h := tless hq (by omega) hbz hd HN.out (by omega) (SX2.out.mods hV (fun _ _ h => h))
            rw [hls, show lessE zs xs = 0 by unfold lessE; rw [hle]; rfl] at h
            exact h)
          have HATX : Hid (∀ V (i : Nat), Mods Nil wr V → Calls Try.prog 51 #[.slice A9 j c9, .int .i64 (i : Int)] V fun e w' => e = .returned (.int .u64 (vat xs i : Int)) ∧ V = w') := Lib.hid (fun V i hV => vat_nat V HN.out (SX2.out.mods hV (fun _ _ h => h)) i)
          have HSX : Hid (∀ V, Mods Nil wr V → Calls Try.prog 43 #[.slice A9 j c9] V fun e w' => e = .returned (.tuple #[.int .u64 (t1 : Int), .int .i64 0]) ∧ Mods Nil V w') := Lib.hid (fun V hV => by have h := sum_any V HN.out (by omega) hbx (SX2.out.mods hV (fun _ _ h => h)); rw [hsx.1, hsx.2] at h; exact h)
          have HSL : Hid (∀ V D e p, ls.length = p → Sl V D e (nums ls) → Calls Try.prog 43 #[.slice D p e] V fun e w' => e = .returned (.tuple #[.int .u64 (t2 : Int), .int .i64 0]) ∧ Mods Nil V w') := Lib.hid (fun V D e p hp hd => by have h := sum_any V hp (by omega) hbl hd; rw [hsl.1, hsl.2] at h; exact h)
          have HSZ : Hid (∀ V D e, Sl V D e (nums zs) → Calls Try.prog 43 #[.slice D q e] V fun e w' => e = .returned (.tuple #[.int .u64 (t3 : Int), .int .i64 0]) ∧ Mods Nil V w') := Lib.hid (fun V D e hd => by have h := sum_any V hq (by omega) hbz hd; rw [hsz.1, hsz.2] at h; exact h)
          have HADD := Lib.hid hadd
          have HZV2 := Lib.hid hzv2
          have HQ := Lib.hid hq
          clear hfull HO hxv hyv hzs hzv hzv2 hle hls hlv hlv2 hll hadd htot htz ht1 ht2 ht3 hsx hsl hsz hbx hby hbz hbl hxl hyl hq SX SY
          go_wp2_with (first
            | (go_at_call 45; refine (HLESS.out _ _ _ M3.out S3.out).mono ?_; rintro e w4 ⟨A4, c4, n4, rfl, l4, s4, m4⟩; have M4 := Lib.hid (M3.out.trans m4); have S4 := Lib.hid s4; have L4 := Lib.hid l4; have S34 := Lib.hid (S3.out.mods m4 (fun _ _ h => h)); clear m4 s4 l4)
            | (go_at_call 57; refine (HMAX.out _ _ ((Mods.refl Nil wr).alloc _) (build_at (by simp) rfl rfl (by decide))).mono ?_; rintro e w3 ⟨A8, c8, n8, rfl, l8, s8, m3⟩; obtain rfl : q = n8 := HQ.out.symm.trans l8; have M3 := Lib.hid (((Mods.refl Nil wr).alloc _).trans m3); have S3 := Lib.hid s8; clear l8 s8 m3))
          go_loopw [13] (fun x wr2 => ∃ i : Nat, i ≤ 30 ∧ x = .int .i64 (i : Int) ∧ w4 = wr2) (fun x _ => 30 - (intOf x).toNat)
          case atStart => exact ⟨0, Nat.zero_le _, rfl, rfl⟩
          case round =>
            obtain ⟨i, hi30, rfl, rfl⟩ := hrel
            by_cases hlt3 : i < 30
            · have hiI : (i : Int) < 30 := by omega
              have had := HADD.out i
              have hz9 := HZV2.out i
              have HA1 := Lib.hid (vat_nat w4 L4.out S4.out i)
              have HA2 := Lib.hid (HATX.out w4 i M4.out)
              have HA3 := Lib.hid (vat_nat w4 HQ.out S34.out i)
              obtain ⟨a1, h1⟩ : ∃ a, vat ls i = a := ⟨_, rfl⟩
              obtain ⟨a2, h2⟩ : ∃ a, vat xs i = a := ⟨_, rfl⟩
              obtain ⟨a3, h3⟩ : ∃ a, vat zs i = a := ⟨_, rfl⟩
              rw [h1] at HA1
              rw [h2] at HA2
              rw [h3] at HA3
              rw [h1, h2, h3] at had
              rw [h3] at hz9
              have hwa : IntKind.u64.wrap ((a1 : Int) + (a2 : Int)) = (a3 : Int) := by rw [IntKind.wrap_u64]; omega
              clear h1 h2 h3 had hz9
              go_wp2_with (first
                | (go_at_call 51; with_reducible refine (HA1.out).mono ?_; rintro e w5 ⟨rfl, rfl⟩)
                | (go_at_call 51; with_reducible refine (HA2.out).mono ?_; rintro e w5 ⟨rfl, rfl⟩)
                | (go_at_call 51; with_reducible refine (HA3.out).mono ?_; rintro e w5 ⟨rfl, rfl⟩))
              exact ⟨⟨i + 1, by omega, by go_num, by trivial⟩, by simp [intOf]; omega⟩
            · obtain rfl : i = 30 := by omega
              go_wp2_with (first
                | (go_at_call 43; have hx := M6.out; clear hx; refine (HSZ.out _ _ _ S36.out).mono ?_; rintro e w7 ⟨rfl, m7⟩; have M7 := Lib.hid (M6.out.trans m7); clear m7)
                | (go_at_call 43; have hx := M5.out; clear hx; refine (HSL.out _ _ _ _ L4.out S45.out).mono ?_; rintro e w6 ⟨rfl, m6⟩; have M6 := Lib.hid (M5.out.trans m6); have S36 := Lib.hid (S35.out.mods m6 (fun _ _ h => h)); clear m6)
                | (go_at_call 43; refine (HSX.out _ M4.out).mono ?_; rintro e w5 ⟨rfl, m5⟩; have M5 := Lib.hid (M4.out.trans m5); have S45 := Lib.hid (S4.out.mods m5 (fun _ _ h => h)); have S35 := Lib.hid (S34.out.mods m5 (fun _ _ h => h)); clear m5))
              go_ret
              exact ⟨rfl, HMO.out.trans M7.out⟩
end Go.Proofs.Ytdllgmhipenidaa
