/- ElectPlays: step by step as the document's. -/
import Derived.Test.YtpabbhhaagfoeaaHelp16
import Derived.Test.YtpabbhhaagfoeaaRef16
import Derived.Test.YtpabbhhaagfoeaaQT
import Derived.Test.YtpabbhhaagfoeaaMemX
import Derived.Deep.QuietTactic
import Derived.BigQuiet
namespace Go.Proofs.Ytpabbhhaagfoeaa
set_option maxRecDepth 1000000
open Go.RowKit
set_option linter.unusedVariables false
set_option linter.unusedSimpArgs false

theorem u64_mask16 (k n : Nat) (hk : k < 64) : bits .and .u64 (n : Int) ((2 ^ k - 1 : Nat) : Int) = ((n % 18446744073709551616 % 2 ^ k : Nat) : Int) := by
  have hpow : 2 ^ k ≤ 9223372036854775808 := by
    have : 2 ^ k ≤ 2 ^ 63 := Nat.pow_le_pow_right (by omega) (by omega)
    omega
  have h3 : (BitVec.ofInt 64 ((2 ^ k - 1 : Nat) : Int)).toNat = 2 ^ k - 1 := by
    rw [BitVec.toNat_ofInt]
    omega
  have key : (BitVec.ofInt 64 (n : Int) &&& BitVec.ofInt 64 ((2 ^ k - 1 : Nat) : Int)).toNat = ((n : Int) % ((2 ^ 64 : Nat) : Int)).toNat % 2 ^ k := by
    rw [BitVec.toNat_and, BitVec.toNat_ofInt, h3, Nat.and_two_pow_sub_one_eq_mod]
  show IntKind.u64.wrap ((BitVec.ofInt 64 (n : Int) &&& BitVec.ofInt 64 ((2 ^ k - 1 : Nat) : Int)).toNat : Nat) = ((n % 18446744073709551616 % 2 ^ k : Nat) : Int)
  rw [key, IntKind.wrap_u64]
  have h1 : ((n : Int) % ((2 ^ 64 : Nat) : Int)).toNat = n % 18446744073709551616 := by omega
  rw [h1]
  have h0 : 0 < 2 ^ k := Nat.pos_of_ne_zero (by simp)
  have h2 : n % 18446744073709551616 % 2 ^ k < 2 ^ k := Nat.mod_lt _ h0
  omega
theorem u64_and3n {n : Nat} (h : n < 18446744073709551616) : bits .and .u64 (n : Int) 3 = ((n % 4 : Nat) : Int) := by
  have h1 := u64_mask16 2 n (by omega)
  rw [Nat.mod_eq_of_lt h] at h1
  exact h1
theorem i64_of_wf16 {a : Int} (w : (Lit.int .i64 a).wf = true) : -9223372036854775808 ≤ a ∧ a < 9223372036854775808 := by
  have h1 : IntKind.i64.min = -9223372036854775808 := rfl
  have h2 : IntKind.i64.max = 9223372036854775807 := rfl
  simp only [Lit.wf, h1, h2, Bool.and_eq_true, decide_eq_true_eq] at w
  omega
theorem e16_info : (Try.prog.info? 71).map (·.size) = some 3 := by kernel_rfl
@[reducible] def EW (w : World) (b : Nat) (turn left top : Nat) : Prop := Blk w b 71 #[.int .i64 (turn : Int), .int .i64 (left : Int), .int .u64 (top : Int)]
/-- Both sides. -/
structure P16 (W0 W : World) (g h turn left top : Nat) : Prop where
  s : ES W0 W g turn left top
  r : EW W h turn left top
  far : W0.heap.size ≤ h
theorem P16.nil {W0 W V : World} {g h turn left top : Nat} (p : P16 W0 W g h turn left top) (m : Mods Nil W V) : P16 W0 V g h turn left top := ⟨p.s.nil m, p.r.mods m (fun h => h), p.far⟩
theorem P16.ne {W0 W : World} {g h turn left top : Nat} {l t : Nat} (s : ES W0 W g turn left top) (r : EW W h turn l t) : g ≠ h := s.a.ne_ r (by decide)

set_option maxHeartbeats 12800000 in
theorem electPlays_walk (w : World) {ni : Int} (wn : (Lit.int .i64 ni).wf = true) {pi : Int} (wp : (Lit.int .i64 pi).wf = true) {A : Option Addr} {c n : Nat} {xs : List Nat} (hn : xs.length = n) (hs : Sl w A c (nums xs)) (hx : ∀ x ∈ xs, x < 18446744073709551616) :
    Calls Try.prog 4 #[.int .i64 ni, .int .i64 pi, .slice A n c] w fun e w' => e = .returned (.bool true) ∧ Mods Nil w w' := by
  have HS := Lib.hid hs
  have HNL := Lib.hid hn
  have HX := Lib.hid hx
  clear hs hn hx wn wp
  by_cases h200 : 200 < n
  · have h200I : decide ((200 : Int) < (n : Int)) = true := by simp; omega
    have h200N : decide (200 < n) = true := by simp; omega
    go_enter Try.func4, Try.ntmps4
    go_wp2_with (go_at_call 28; refine (awake16_any _).mono ?_; rintro e w1 ⟨rfl, m1⟩; have M1 := Lib.hid m1; clear m1)
    go_ret
    exact ⟨rfl, M1.out⟩
  have h200I : decide ((200 : Int) < (n : Int)) = false := by simp; omega
  have h200N : decide (200 < n) = false := by simp; omega
  have hn200 : n ≤ 200 := by omega
  clear h200
  by_cases hmay : eMay ni pi
  · obtain ⟨n0, n31, p1, p1000⟩ := hmay
    obtain ⟨nd, rfl⟩ : ∃ k : Nat, ni = (k : Int) := ⟨ni.toNat, by omega⟩
    obtain ⟨p, rfl⟩ : ∃ k : Nat, pi = (k : Int) := ⟨pi.toNat, by omega⟩
    have HN : Hid (∀ W, Mods Nil w W → Calls Try.prog 29 #[.int .i64 (nd : Int), .int .i64 (p : Int)] W fun e V => ∃ b, e = .returned (.tuple #[.pointer (some ⟨b, 0, none⟩), .int .i64 0]) ∧ ES w V b (p * (nd + 1)) (p * (nd + 1)) 0 ∧ W.heap.size ≤ b ∧ Mods Nil W V) := Lib.hid (fun W hW => es_new hW (by omega) (by omega) (by omega))
    have HRN : Hid (∀ W, Calls Try.prog 30 #[.int .i64 (nd : Int), .int .i64 (p : Int)] W fun e V => e = .returned (.tuple #[EV (p * (nd + 1)) (p * (nd + 1)) 0, .bool true]) ∧ Mods Nil W V) := Lib.hid (fun W => r16new_ok W (by omega) (by omega) (by omega))
    have hT := eTurn_le (show nd ≤ 31 by omega) (show p ≤ 1000 by omega)
    have hT1 : 1 ≤ p * (nd + 1) := Nat.mul_pos (by omega) (by omega)
    obtain ⟨t, ht⟩ : ∃ t, p * (nd + 1) = t := ⟨_, rfl⟩
    rw [ht] at HN HRN hT hT1
    have HT : Hid (1 ≤ t ∧ t ≤ 32000) := Lib.hid ⟨hT1, hT⟩
    clear ht hT hT1 n0 n31 p1 p1000
    go_enter Try.func4, Try.ntmps4
    go_wp2_with (first
      | (go_at_call 28; refine (awake16_any _).mono ?_; rintro e w1 ⟨rfl, m1⟩; have M1 := Lib.hid m1; clear m1)
      | (go_at_call 29; refine (HN.out _ M1.out).mono ?_; rintro e w2 ⟨g, rfl, s2, _, _⟩; have S2 := Lib.hid s2; clear s2)
      | (go_at_call 30; refine (HRN.out _).mono ?_; rintro e w3 ⟨rfl, m3⟩; have S3 := Lib.hid (S2.out.nil m3); clear m3))
    obtain ⟨h, hh⟩ : ∃ h, w3.heap.size = h := ⟨_, rfl⟩
    have Q0 : Hid (P16 w (w3.alloc (.cells #[.int .i64 (t : Int), .int .i64 (t : Int), .int .u64 ((0 : Nat) : Int)] 71)) g h t t 0) := Lib.hid ⟨S3.out.nil ((Mods.refl Nil w3).alloc _), by rw [← hh]; exact Blk.new w3 _ _, by rw [← hh]; exact S3.out.m.size⟩
    rw [hh]
    clear HN HRN hh S2 S3
    go_loopw [12] (fun x wr => ∃ i left top : Nat, x = .int .i64 (i : Int) ∧ i ≤ n ∧ Hid (EOk t left) ∧ P16 w wr g h t left top) (fun x _ => n - (intOf x).toNat)
    case atStart => exact ⟨0, t, 0, rfl, Nat.zero_le _, Lib.hid ⟨HT.out.1, Nat.le_refl _, HT.out.2⟩, Q0.out⟩
    case round =>
      obtain ⟨i, left, top, rfl, hi, HK, hq⟩ := hrel
      have P := Lib.hid hq
      clear hq Q0
      by_cases hlt : i < n
      · have hltI : (i : Int) < (n : Int) := by omega
        have hltN : decide (i < n) = true := by simp; omega
        obtain ⟨v, hv⟩ : ∃ v, xs[i]'(by rw [HNL.out]; exact hlt) = v := ⟨_, rfl⟩
        have hv64 : v < 18446744073709551616 := by rw [← hv]; exact HX.out _ (List.getElem_mem _)
        have HV : Hid (∀ V, Mods Nil w V → ∃ b1 o1, A = some ⟨b1, o1, none⟩ ∧ V.cell? ⟨b1, o1 + i, none⟩ = some (.int .u64 (v : Int))) := Lib.hid (fun V hV => by
          obtain ⟨b1, o1, h1, _, h2⟩ := (HS.out.mods hV (fun _ _ h => h)).at_ (by simp [nums, HNL.out]; omega)
          exact ⟨b1, o1, h1, h2 i _ (by have hl : i < xs.length := (by rw [HNL.out]; exact hlt); simp [nums, hl, hv])⟩)
        have hand := u64_and3n hv64
        obtain ⟨m4, hm4⟩ : ∃ b, v % 4 = b := ⟨_, rfl⟩
        rw [hm4] at hand
        obtain ⟨d, hd⟩ : ∃ d, v / 4 = d := ⟨_, rfl⟩
        have hd64 : d < 18446744073709551616 := by omega
        obtain ⟨b1, o1, rfl, hc⟩ := HV.out _ P.out.s.m
        have HC : Hid (∀ V, Mods Nil w V → V.cell? ⟨b1, o1 + i, none⟩ = some (.int .u64 (v : Int))) := Lib.hid (fun V hV => by obtain ⟨b2, o2, he, h2⟩ := HV.out V hV; obtain ⟨rfl, rfl⟩ : b1 = b2 ∧ o1 = o2 := (by simpa using he); exact h2)
        have x0 := P.out.r.cell 0
        have x1 := P.out.r.cell 1
        have x2 := P.out.r.cell 2
        clear hv hm4 HV
        by_cases hm : 0 < m4
        · have hmI : decide ((0 : Int) < (m4 : Int)) = true := by simp; omega
          have hmN : decide (0 < m4) = true := by simp; omega
          have HTK : Hid (Calls Try.prog 31 #[.pointer (some ⟨g, 0, none⟩)] wr fun e V => e = .returned (.bool (decide (left ≤ 1))) ∧ ES w V g t (eLeft t left) top ∧ Mods (EN g) wr V) := Lib.hid (P.out.s.tick HK.out)
          have HRT : Hid (∀ V, Calls Try.prog 32 #[.agg #[.int .i64 (t : Int), .int .i64 (left : Int), .int .u64 (top : Int)]] V fun e V' => e = .returned (.tuple #[.agg #[.int .i64 (t : Int), .int .i64 ((eLeft t left : Nat) : Int), .int .u64 (top : Int)], .bool (decide (left ≤ 1))]) ∧ Mods Nil V V') := Lib.hid (fun V => r16tick_any V HK.out)
          have HK1 := Lib.hid (eLeft_ok HK.out)
          obtain ⟨l1, hl1⟩ : ∃ l1, eLeft t left = l1 := ⟨_, rfl⟩
          obtain ⟨tk, htk⟩ : ∃ tk, decide (left ≤ 1) = tk := ⟨_, rfl⟩
          rw [hl1] at HK1 HTK HRT
          rw [htk] at HTK HRT
          have hrr : (tk != tk) = false := by simp
          clear hl1 htk hd hd64
          go_wp2_with (first
            | (go_at_call 32; refine (HRT.out _).mono ?_; rintro e w6 ⟨rfl, m6⟩; have S6 := Lib.hid (S5.out.nil m6); have B6 := Lib.hid (B5.out.mods m6 (fun h => h)); clear m6 x0 x1 x2)
            | (go_at_call 31; refine (HTK.out).mono ?_; rintro e w5 ⟨rfl, s5, m5⟩; have S5 := Lib.hid s5; have B5 : Hid (EW w5 h t left top) := Lib.hid (P.out.r.mods m5 (fun e => P16.ne P.out.s P.out.r e.symm)); clear x0 x1 x2; have x0 := B5.out.cell 0; have x1 := B5.out.cell 1; have x2 := B5.out.cell 2; clear s5 m5)
            | (refine wpList_store_mk rfl 71 (.tmp 10) (.tmp 74) rfl rfl h rfl 71 (#[.int .i64 (t : Int), .int .i64 (left : Int), .int .u64 (top : Int)]) (#[.int .i64 (t : Int), .int .i64 (l1 : Int), .int .u64 (top : Int)]) rfl B6.out rfl (by simp [Value.oneCell']) e16_info (by simp [Value.cells]) ?_; intro w8 b8 m8; have P8 : Hid (P16 w w8 g h t l1 top) := Lib.hid ⟨⟨S6.out.m.trans2 m8 (fun k hk e => by have := P.out.far; omega), S6.out.far, S6.out.a.mods m8 (P16.ne S6.out B6.out)⟩, b8, P.out.far⟩; clear b8 m8))
          have HL : Hid (∀ V, Mods Nil w8 V → Calls Try.prog 35 #[.pointer (some ⟨g, 0, none⟩)] V fun e V' => e = .returned (.int .i64 (l1 : Int)) ∧ Mods Nil w8 V') := Lib.hid (fun V hV => ((P8.out.nil hV).s.left_).mono fun e V' ⟨h1, _, h2⟩ => ⟨h1, hV.trans h2⟩)
          have HTP : Hid (∀ V, Mods Nil w8 V → Calls Try.prog 36 #[.pointer (some ⟨g, 0, none⟩)] V fun e V' => e = .returned (.int .u64 (top : Int)) ∧ Mods Nil w8 V') := Lib.hid (fun V hV => ((P8.out.nil hV).s.top_).mono fun e V' ⟨h1, _, h2⟩ => ⟨h1, hV.trans h2⟩)
          have hll : ((l1 : Int) != (l1 : Int)) = false := by simp
          have htt : ((top : Int) != (top : Int)) = false := by simp
          have hrr : ∀ r : Bool, (r != r) = false := fun r => by simp
          refine gq_region (by kernel_rfl) (by kernel_rfl) ?_
          try simp only [Act.put, List.setIfInBounds_toArray, List.set_cons_zero, List.set_cons_succ]
          repeat (first
            | go_big_quiet_skip
            | (go_big_quiet_want; first
                | (refine gq_call HL.out ?_ ?_; (focus (intro V; go_simp; done)); go_big_quiet_on)
                | (refine gq_call HTP.out ?_ ?_; (focus (intro V; go_simp; done)); go_big_quiet_on)
                | (refine gq_op (v := ?_) ?_ ?_; rotate_left; (focus (intro V hV; have y0 := ((P8.out.nil hV).r).cell 0; have y1 := ((P8.out.nil hV).r).cell 1; have y2 := ((P8.out.nil hV).r).cell 2; go_simp; try with_reducible rfl)); go_big_quiet_on))
              simp only [Act.put, List.setIfInBounds_toArray, List.set_cons_zero, List.set_cons_succ])
          refine wpQuiet_nil ?_
          intro V hV
          have P9 := Lib.hid (P8.out.nil hV)
          clear hV hrr hll htt
          go_wp2_with fail
          exact ⟨⟨i + 1, l1, top, by go_num, by omega, HK1, P9.out⟩, by simp [intOf]; omega⟩
        · have hm0 : m4 = 0 := by omega
          subst hm0
          have hdI : (v : Int) / 4 = (d : Int) := by rw [← hd]; rfl
          clear hm hd
          by_cases hlow : d < top
          ·
            have HB : Hid (d < top) := Lib.hid hlow
            have HRH : Hid (∀ V, Calls Try.prog 34 #[.agg #[.int .i64 (t : Int), .int .i64 (left : Int), .int .u64 (top : Int)], .int .u64 (d : Int)] V fun e V' => e = .returned (.tuple #[.agg #[.int .i64 (t : Int), .int .i64 (left : Int), .int .u64 (top : Int)], .bool false]) ∧ Mods Nil V V') := Lib.hid (fun V => r16heard_low V HB.out)
            clear hlow
            go_wp2_with (first
              | (go_at_call 33; refine (P.out.s.low HB.out).mono ?_; rintro e w5 ⟨rfl, s5, m5⟩; have S5 := Lib.hid s5; have M5 := Lib.hid m5; have B5 : Hid (EW w5 h t left top) := Lib.hid (P.out.r.mods m5 (fun h => h)); clear x0 x1 x2 s5 m5 hc))
            refine qt_region 12 (by kernel_rfl) rfl ?_
            refine qt_quiet (fun V => Mods Nil w5 V) 0 7 5 (by kernel_rfl) ((Mods.refl Nil w5).drew) ?_
            simp only [List.drop_succ_cons, List.drop_zero, List.take_succ_cons, List.take_zero]
            repeat (first
              | go_big_quiet_skip
              | (go_big_quiet_want; first
                  | (refine gq_call (fun V hV => (HRH.out V).mono fun e V' ⟨h1, h2⟩ => ⟨h1, hV.trans h2⟩) ?_ ?_; (focus (intro V; go_simp; done)); go_big_quiet_on)
                  | (refine gq_op (v := ?_) ?_ ?_; rotate_left; (focus (intro V hV; have y0 := (B5.out.mods hV (fun h => h)).cell 0; have y1 := (B5.out.mods hV (fun h => h)).cell 1; have y2 := (B5.out.mods hV (fun h => h)).cell 2; have hc := HC.out V (S5.out.m.trans hV); go_simp; try with_reducible rfl)); go_big_quiet_on))
                simp only [Act.put, List.setIfInBounds_toArray, List.set_cons_zero, List.set_cons_succ])
            refine wpQuiet_nil ?_
            intro V hV
            have S6 := Lib.hid (S5.out.nil hV)
            have B6 : Hid (EW V h t left top) := Lib.hid (B5.out.mods hV (fun h => h))
            clear hV
            refine qt_take 7 4 rfl (by kernel_rfl) (by kernel_rfl) (by kernel_rfl) (fun _ _ _ h => h) (by rfl) (v := ?_) ?_ ?_
            rotate_left
            · intro V
              go_simp
              try with_reducible rfl
            simp only [List.getElem_toArray, List.getElem_cons_succ, List.getElem_cons_zero, Act.put, List.setIfInBounds_toArray, List.set_cons_zero, List.set_cons_succ]
            refine qt_take 8 3 rfl (by kernel_rfl) (by kernel_rfl) (by kernel_rfl) (fun _ _ _ h => h) (by rfl) (v := ?_) ?_ ?_
            rotate_left
            · intro V
              go_simp
              try with_reducible rfl
            simp only [List.getElem_toArray, List.getElem_cons_succ, List.getElem_cons_zero, Act.put, List.setIfInBounds_toArray, List.set_cons_zero, List.set_cons_succ]
            refine qt_take 9 2 rfl (by kernel_rfl) (by kernel_rfl) (by kernel_rfl) (fun _ _ _ h => h) (by rfl) (v := ?_) ?_ ?_
            rotate_left
            · intro V
              go_simp
              try with_reducible rfl
            simp only [List.getElem_toArray, List.getElem_cons_succ, List.getElem_cons_zero, Act.put, List.setIfInBounds_toArray, List.set_cons_zero, List.set_cons_succ]
            refine qt_list 10 2 rfl (by kernel_rfl) ?_
            simp only [List.drop_succ_cons, List.drop_zero]
            go_wp2_with (first
              | (refine wpList_store_mk rfl 71 (.tmp 10) (.tmp 91) rfl rfl h rfl 71 (#[.int .i64 (t : Int), .int .i64 (left : Int), .int .u64 (top : Int)]) (#[.int .i64 (t : Int), .int .i64 (left : Int), .int .u64 (top : Int)]) rfl B6.out rfl (by simp [Value.oneCell']) e16_info (by simp [Value.cells]) ?_; intro w8 b8 m8; have P8 : Hid (P16 w w8 g h t left top) := Lib.hid ⟨⟨S6.out.m.trans2 m8 (fun k hk e => by have := P.out.far; omega), S6.out.far, S6.out.a.mods m8 (P16.ne S6.out B6.out)⟩, b8, P.out.far⟩; clear b8 m8))
            have HL : Hid (∀ V, Mods Nil w8 V → Calls Try.prog 35 #[.pointer (some ⟨g, 0, none⟩)] V fun e V' => e = .returned (.int .i64 (left : Int)) ∧ Mods Nil w8 V') := Lib.hid (fun V hV => ((P8.out.nil hV).s.left_).mono fun e V' ⟨h1, _, h2⟩ => ⟨h1, hV.trans h2⟩)
            have HTP : Hid (∀ V, Mods Nil w8 V → Calls Try.prog 36 #[.pointer (some ⟨g, 0, none⟩)] V fun e V' => e = .returned (.int .u64 (top : Int)) ∧ Mods Nil w8 V') := Lib.hid (fun V hV => ((P8.out.nil hV).s.top_).mono fun e V' ⟨h1, _, h2⟩ => ⟨h1, hV.trans h2⟩)
            have hll : ((left : Int) != (left : Int)) = false := by simp
            have htt : ((top : Int) != (top : Int)) = false := by simp
            refine gq_region (by kernel_rfl) (by kernel_rfl) ?_
            try simp only [Act.put, List.setIfInBounds_toArray, List.set_cons_zero, List.set_cons_succ]
            repeat (first
              | go_big_quiet_skip
              | (go_big_quiet_want; first
                  | (refine gq_call HL.out ?_ ?_; (focus (intro V; go_simp; done)); go_big_quiet_on)
                  | (refine gq_call HTP.out ?_ ?_; (focus (intro V; go_simp; done)); go_big_quiet_on)
                  | (refine gq_op (v := ?_) ?_ ?_; rotate_left; (focus (intro V hV; have y0 := ((P8.out.nil hV).r).cell 0; have y1 := ((P8.out.nil hV).r).cell 1; have y2 := ((P8.out.nil hV).r).cell 2; go_simp; try with_reducible rfl)); go_big_quiet_on))
                simp only [Act.put, List.setIfInBounds_toArray, List.set_cons_zero, List.set_cons_succ])
            refine wpQuiet_nil ?_
            intro V hV
            have P9 := Lib.hid (P8.out.nil hV)
            clear hV hll htt
            go_wp2_with fail
            exact ⟨⟨i + 1, left, top, by go_num, by omega, HK, P9.out⟩, by simp [intOf]; omega⟩
          ·
            have HB : Hid (top ≤ d) := Lib.hid (by omega)
            have HRH : Hid (∀ V, Calls Try.prog 34 #[.agg #[.int .i64 (t : Int), .int .i64 (left : Int), .int .u64 (top : Int)], .int .u64 (d : Int)] V fun e V' => e = .returned (.tuple #[.agg #[.int .i64 (t : Int), .int .i64 (t : Int), .int .u64 (d : Int)], .bool true]) ∧ Mods Nil V V') := Lib.hid (fun V => r16heard_ok V HB.out)
            clear hlow
            go_wp2_with (first
              | (go_at_call 33; refine (P.out.s.heard HB.out).mono ?_; rintro e w5 ⟨rfl, s5, m5⟩; have S5 := Lib.hid s5; have B5 : Hid (EW w5 h t left top) := Lib.hid (P.out.r.mods m5 (fun e => P16.ne P.out.s P.out.r e.symm)); clear x0 x1 x2 s5 m5 hc))
            refine qt_region 12 (by kernel_rfl) rfl ?_
            refine qt_quiet (fun V => Mods Nil w5 V) 0 7 5 (by kernel_rfl) ((Mods.refl Nil w5).drew) ?_
            simp only [List.drop_succ_cons, List.drop_zero, List.take_succ_cons, List.take_zero]
            repeat (first
              | go_big_quiet_skip
              | (go_big_quiet_want; first
                  | (refine gq_call (fun V hV => (HRH.out V).mono fun e V' ⟨h1, h2⟩ => ⟨h1, hV.trans h2⟩) ?_ ?_; (focus (intro V; go_simp; done)); go_big_quiet_on)
                  | (refine gq_op (v := ?_) ?_ ?_; rotate_left; (focus (intro V hV; have y0 := (B5.out.mods hV (fun h => h)).cell 0; have y1 := (B5.out.mods hV (fun h => h)).cell 1; have y2 := (B5.out.mods hV (fun h => h)).cell 2; have hc := HC.out V (S5.out.m.trans hV); go_simp; try with_reducible rfl)); go_big_quiet_on))
                simp only [Act.put, List.setIfInBounds_toArray, List.set_cons_zero, List.set_cons_succ])
            refine wpQuiet_nil ?_
            intro V hV
            have S6 := Lib.hid (S5.out.nil hV)
            have B6 : Hid (EW V h t left top) := Lib.hid (B5.out.mods hV (fun h => h))
            clear hV
            refine qt_take 7 4 rfl (by kernel_rfl) (by kernel_rfl) (by kernel_rfl) (fun _ _ _ h => h) (by rfl) (v := ?_) ?_ ?_
            rotate_left
            · intro V
              go_simp
              try with_reducible rfl
            simp only [List.getElem_toArray, List.getElem_cons_succ, List.getElem_cons_zero, Act.put, List.setIfInBounds_toArray, List.set_cons_zero, List.set_cons_succ]
            refine qt_take 8 3 rfl (by kernel_rfl) (by kernel_rfl) (by kernel_rfl) (fun _ _ _ h => h) (by rfl) (v := ?_) ?_ ?_
            rotate_left
            · intro V
              go_simp
              try with_reducible rfl
            simp only [List.getElem_toArray, List.getElem_cons_succ, List.getElem_cons_zero, Act.put, List.setIfInBounds_toArray, List.set_cons_zero, List.set_cons_succ]
            refine qt_take 9 2 rfl (by kernel_rfl) (by kernel_rfl) (by kernel_rfl) (fun _ _ _ h => h) (by rfl) (v := ?_) ?_ ?_
            rotate_left
            · intro V
              go_simp
              try with_reducible rfl
            simp only [List.getElem_toArray, List.getElem_cons_succ, List.getElem_cons_zero, Act.put, List.setIfInBounds_toArray, List.set_cons_zero, List.set_cons_succ]
            refine qt_list 10 2 rfl (by kernel_rfl) ?_
            simp only [List.drop_succ_cons, List.drop_zero]
            go_wp2_with (first
              | (refine wpList_store_mk rfl 71 (.tmp 10) (.tmp 91) rfl rfl h rfl 71 (#[.int .i64 (t : Int), .int .i64 (left : Int), .int .u64 (top : Int)]) (#[.int .i64 (t : Int), .int .i64 (t : Int), .int .u64 (d : Int)]) rfl B6.out rfl (by simp [Value.oneCell']) e16_info (by simp [Value.cells]) ?_; intro w8 b8 m8; have P8 : Hid (P16 w w8 g h t t d) := Lib.hid ⟨⟨S6.out.m.trans2 m8 (fun k hk e => by have := P.out.far; omega), S6.out.far, S6.out.a.mods m8 (P16.ne S6.out B6.out)⟩, b8, P.out.far⟩; clear b8 m8))
            have HL : Hid (∀ V, Mods Nil w8 V → Calls Try.prog 35 #[.pointer (some ⟨g, 0, none⟩)] V fun e V' => e = .returned (.int .i64 (t : Int)) ∧ Mods Nil w8 V') := Lib.hid (fun V hV => ((P8.out.nil hV).s.left_).mono fun e V' ⟨h1, _, h2⟩ => ⟨h1, hV.trans h2⟩)
            have HTP : Hid (∀ V, Mods Nil w8 V → Calls Try.prog 36 #[.pointer (some ⟨g, 0, none⟩)] V fun e V' => e = .returned (.int .u64 (d : Int)) ∧ Mods Nil w8 V') := Lib.hid (fun V hV => ((P8.out.nil hV).s.top_).mono fun e V' ⟨h1, _, h2⟩ => ⟨h1, hV.trans h2⟩)
            have hll : ((t : Int) != (t : Int)) = false := by simp
            have htt : ((d : Int) != (d : Int)) = false := by simp
            refine gq_region (by kernel_rfl) (by kernel_rfl) ?_
            try simp only [Act.put, List.setIfInBounds_toArray, List.set_cons_zero, List.set_cons_succ]
            repeat (first
              | go_big_quiet_skip
              | (go_big_quiet_want; first
                  | (refine gq_call HL.out ?_ ?_; (focus (intro V; go_simp; done)); go_big_quiet_on)
                  | (refine gq_call HTP.out ?_ ?_; (focus (intro V; go_simp; done)); go_big_quiet_on)
                  | (refine gq_op (v := ?_) ?_ ?_; rotate_left; (focus (intro V hV; have y0 := ((P8.out.nil hV).r).cell 0; have y1 := ((P8.out.nil hV).r).cell 1; have y2 := ((P8.out.nil hV).r).cell 2; go_simp; try with_reducible rfl)); go_big_quiet_on))
                simp only [Act.put, List.setIfInBounds_toArray, List.set_cons_zero, List.set_cons_succ])
            refine wpQuiet_nil ?_
            intro V hV
            have P9 := Lib.hid (P8.out.nil hV)
            clear hV hll htt
            go_wp2_with fail
            exact ⟨⟨i + 1, t, d, by go_num, by omega, Lib.hid ⟨HT.out.1, Nat.le_refl _, HT.out.2⟩, P9.out⟩, by simp [intOf]; omega⟩
      · obtain rfl : i = n := by omega
        have hltI : decide ((i : Int) < (i : Int)) = false := by simp
        have NN : Hid (Mods Nil w wr) := Lib.hid P.out.s.m
        clear hlt
        go_wp2_with (first
          | (go_at_call 35; refine (eleft_nil _).mono ?_; rintro e z4 ⟨rfl, y4⟩; have N4 := Lib.hid (N3.out.trans y4); clear y4)
          | (go_at_call 36; refine (etop_nil _).mono ?_; rintro e z3 ⟨rfl, y3⟩; have N3 := Lib.hid (N2.out.trans y3); clear y3)
          | (go_at_call 33; refine (eheard_nil _ _).mono ?_; rintro e z2 ⟨rfl, y2⟩; have N2 := Lib.hid (N1.out.trans y2); clear y2)
          | (go_at_call 31; refine (etick_nil _).mono ?_; rintro e z1 ⟨rfl, y1⟩; have N1 := Lib.hid (NN.out.trans y1); clear y1))
        go_ret
        exact ⟨rfl, N4.out⟩
  · have HB : Hid (¬ eMay ni pi) := Lib.hid hmay
    clear hmay
    go_enter Try.func4, Try.ntmps4
    go_wp2_with (first
      | (go_at_call 28; refine (awake16_any _).mono ?_; rintro e w1 ⟨rfl, m1⟩; have M1 := Lib.hid m1; clear m1)
      | (go_at_call 29; refine (enew_bad _ HB.out).mono ?_; rintro e w2 ⟨rfl, m2⟩; have M2 := Lib.hid (M1.out.trans m2); clear m2)
      | (go_at_call 30; refine (r16new_bad _ HB.out).mono ?_; rintro e w3 ⟨rfl, m3⟩; have M3 := Lib.hid (M2.out.trans m3); clear m3))
    go_loopw [12] (fun x wr => x = .int .i64 0 ∧ Mods Nil w wr) (fun x _ => 0)
    case atStart => exact ⟨rfl, M3.out.alloc _⟩
    case round =>
      obtain ⟨rfl, hnn⟩ := hrel
      have NN := Lib.hid hnn
      clear hnn
      by_cases hlt : 0 < n
      · have hltI : decide ((0 : Int) < (n : Int)) = true := by simp; omega
        have hltN : decide (0 < n) = true := by simp; omega
        clear hlt
        go_wp2_with (first
          | (go_at_call 35; refine (eleft_nil _).mono ?_; rintro e z4 ⟨rfl, y4⟩; have N4 := Lib.hid (N3.out.trans y4); clear y4)
          | (go_at_call 36; refine (etop_nil _).mono ?_; rintro e z3 ⟨rfl, y3⟩; have N3 := Lib.hid (N2.out.trans y3); clear y3)
          | (go_at_call 33; refine (eheard_nil _ _).mono ?_; rintro e z2 ⟨rfl, y2⟩; have N2 := Lib.hid (N1.out.trans y2); clear y2)
          | (go_at_call 31; refine (etick_nil _).mono ?_; rintro e z1 ⟨rfl, y1⟩; have N1 := Lib.hid (NN.out.trans y1); clear y1))
        go_ret
        exact ⟨rfl, N4.out⟩
      · have hltI : decide ((0 : Int) < (n : Int)) = false := by simp; omega
        have hltN : decide (0 < n) = false := by simp; omega
        clear hlt
        go_wp2_with (first
          | (go_at_call 35; refine (eleft_nil _).mono ?_; rintro e z4 ⟨rfl, y4⟩; have N4 := Lib.hid (N3.out.trans y4); clear y4)
          | (go_at_call 36; refine (etop_nil _).mono ?_; rintro e z3 ⟨rfl, y3⟩; have N3 := Lib.hid (N2.out.trans y3); clear y3)
          | (go_at_call 33; refine (eheard_nil _ _).mono ?_; rintro e z2 ⟨rfl, y2⟩; have N2 := Lib.hid (N1.out.trans y2); clear y2)
          | (go_at_call 31; refine (etick_nil _).mono ?_; rintro e z1 ⟨rfl, y1⟩; have N1 := Lib.hid (NN.out.trans y1); clear y1))
        go_ret
        exact ⟨rfl, N4.out⟩
end Go.Proofs.Ytpabbhhaagfoeaa
