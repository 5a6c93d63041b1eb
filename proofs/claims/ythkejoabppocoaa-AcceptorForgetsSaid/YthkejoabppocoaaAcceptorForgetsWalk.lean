/- AcceptorForgets' walk. -/
import Derived.Test.YthkejoabppocoaaHelp13
import Derived.Test.YthkejoabppocoaaOpen
import Derived.Deep.QuietTactic
import Derived.BigQuiet
namespace Go.Proofs.Ythkejoabppocoaa
set_option maxRecDepth 1000000
open Go.RowKit
set_option linter.unusedVariables false
set_option linter.unusedSimpArgs false

/-- What the votes of this law look like. -/
structure ForgP (a : PAc) : Prop where
  prom : a.prom ≤ 3
  low : a.low = 0
  vs : ∀ v ∈ a.L, v.slot < 16 ∧ v.val = [UInt8.ofNat v.slot]
theorem ForgP.next {a : PAc} {k : Nat} (h : ForgP a) (hk : k < 16) : a.accept ⟨k, 3, [UInt8.ofNat k]⟩ = { prom := 3, low := 0, L := insV ⟨k, 3, [UInt8.ofNat k]⟩ a.L } ∧ a.accE ⟨k, 3, [UInt8.ofNat k]⟩ = 0 ∧ ForgP { prom := 3, low := 0, L := insV ⟨k, 3, [UInt8.ofNat k]⟩ a.L } := by
  have hp := h.prom
  have hl := h.low
  obtain ⟨h1, h2⟩ := accept_ok (a := a) (v := ⟨k, 3, [UInt8.ofNat k]⟩) (by simp; omega) (by simp; omega)
  rw [hl] at h1
  refine ⟨h1, h2, by simp, rfl, fun v hv => ?_⟩
  rcases insV_mem hv with rfl | hv
  · exact ⟨hk, rfl⟩
  · exact h.vs v hv
theorem ForgP.forget {a : PAc} (h : ForgP a) (n : Nat) : a.forget n = { prom := a.prom, low := n, L := fromV n a.L } ∧ PAc.forget { prom := a.prom, low := n, L := fromV n a.L } (n / 2) = { prom := a.prom, low := n, L := fromV n a.L } := by
  unfold PAc.forget
  rw [h.low]
  constructor
  · by_cases hn : n = 0
    · subst hn
      rw [if_pos (Nat.le_refl _), fromV_zero]
      have := h.low
      cases a
      simp at this ⊢
      exact this
    · rw [if_neg (by omega)]
  · rw [if_pos (by simp; omega)]

set_option maxHeartbeats 6400000 in
theorem acceptorForgets_walk (w : World) {A : Option Addr} {c n : Nat} {xs : List UInt8} (hn : xs.length = n) (hs : Sl w A c (bts xs)) {fi : Int} (wf : (Lit.int .u8 fi).wf = true) :
    Calls Try.prog 6 #[.slice A n c, .int .u8 fi] w fun e w' => e = .returned (.bool true) ∧ Mods Nil w w' := by
  obtain ⟨i0, hi0, hz0, hz1, hz2⟩ := info_parts infoBool13
  have hf0 := u8_of_wf wf
  obtain ⟨f, rfl⟩ : ∃ f : UInt8, fi = (f.toNat : Int) := ⟨UInt8.ofNat fi.toNat, by simp; omega⟩
  obtain ⟨ff, hff⟩ : ∃ ff, f.toNat % 32 = ff := ⟨_, rfl⟩
  have hfand : bits .and .u8 (f.toNat : Int) 31 = (ff : Int) := by rw [u8_and31', hff]
  have hff32 : ff < 32 := by omega
  obtain ⟨h2, hh2⟩ : ∃ h2, ff / 2 = h2 := ⟨_, rfl⟩
  have hh2I : (ff : Int) / 2 = (h2 : Int) := by omega
  clear wf hf0 hff
  have HS := Lib.hid hs
  have HN := Lib.hid hn
  clear hs hn
  by_cases h30 : 30 < n
  · have h30I : decide ((30 : Int) < (n : Int)) = true := by simp; omega
    have h30N : decide (30 < n) = true := by simp; omega
    go_enter Try.func6, Try.ntmps6
    go_wp2_with (go_at_call 9; refine (awake13_any _).mono ?_; rintro e w1 ⟨rfl, m1⟩; have M1 := Lib.hid m1; clear m1)
    go_ret
    exact ⟨rfl, M1.out⟩
  have h30I : decide ((30 : Int) < (n : Int)) = false := by simp; omega
  have h30N : decide (30 < n) = false := by simp; omega
  have HH2 := Lib.hid hh2
  clear hh2
  go_enter Try.func6, Try.ntmps6
  go_wp2_with (first
    | (go_at_call 9; refine (awake13_any _).mono ?_; rintro e w1 ⟨rfl, m1⟩; have M1 := Lib.hid m1; clear m1)
    | (go_at_call 10; refine (acc_new _).mono ?_; rintro e w2 ⟨b, rfl, s2⟩; have S2 := Lib.hid s2; clear s2)
    | (at_make; refine wpList_make_row _ rfl _ _ 62 rfl 4 i0 (.bool false) Try.underlying62 hi0 hz0 hz1 rfl .i64 .i64 16 rfl rfl (by rw [hz2]; omega) (by omega) ?_; rw [made_rowF _ rfl 16]; have B3 := Lib.hid (Blk.new w2 4 (rowF (fun _ => .bool false) 16)); have S3 := Lib.hid (S2.out.more ((Mods.refl Nil w2).alloc (.cells (rowF (fun _ => .bool false) 16) 4)) (Y := fun k => k = w2.heap.size) (fun k hk => .inr ⟨by omega, by simp; omega⟩)); obtain ⟨w3, hw3⟩ : ∃ w3, w2.alloc (.cells (rowF (fun _ => .bool false) 16) 4) = w3 := ⟨_, rfl⟩; obtain ⟨g, hg⟩ : ∃ g, w2.heap.size = g := ⟨_, rfl⟩; rw [hw3, hg] at S3 B3; rw [hw3, hg]; clear hw3))
  obtain ⟨W0, hW0⟩ : ∃ W0, w1 = W0 := ⟨_, rfl⟩
  have HGW : Hid (W0.heap.size ≤ g) := Lib.hid (by rw [← hW0, ← hg]; exact S2.out.m.size)
  rw [hW0] at M1 S2 S3
  go_loopw [8] (fun x wr => ∃ (i : Nat) (a : PAc), i ≤ n ∧ x = .int .i64 (i : Int) ∧ ForgP a ∧ AccS W0 wr (fun k => k = g) b a i ∧ Blk wr g 4 (rowF (hasV a.L) 16)) (fun x _ => n - (intOf x).toNat)
  case atStart => exact ⟨0, {}, Nat.zero_le _, rfl, ⟨by simp, rfl, fun v hv => by cases hv⟩, S3.out, B3.out⟩
  case round =>
    obtain ⟨i, a, hi, rfl, hp, hsa, hba⟩ := hrel
    have HP := Lib.hid hp
    have HSA := Lib.hid hsa
    have HBA := Lib.hid hba
    clear hp hsa hba
    by_cases hlt : i < n
    · have hltI : (i : Int) < (n : Int) := by omega
      obtain ⟨b1, o1, rfl, hb1, hcell⟩ := sl_byte13 (HS.out.mods (M1.out.trans HSA.out.m) (fun _ _ h => h)) (j := i) (by rw [HN.out]; exact hlt)
      obtain ⟨v, hv⟩ : ∃ v, xs[i]'(by rw [HN.out]; exact hlt) = v := ⟨_, rfl⟩
      rw [hv] at hcell
      obtain ⟨k, hk⟩ : ∃ k, v.toNat % 16 = k := ⟨_, rfl⟩
      have hand : bits .and .u8 (v.toNat : Int) 15 = (k : Int) := by rw [u8_and15', hk]
      have hk16 : k < 16 := by omega
      have hk16I : (k : Int) < 16 := by omega
      have hwk : IntKind.u64.wrap (k : Int) = (k : Int) := by rw [IntKind.wrap_u64]; omega
      obtain ⟨hacc, haE, hnext⟩ := HP.out.next hk16
      obtain ⟨a', ha'⟩ : ∃ a' : PAc, { prom := 3, low := 0, L := insV ⟨k, 3, [UInt8.ofNat k]⟩ a.L } = a' := ⟨_, rfl⟩
      have HA' := Lib.hid ha'
      rw [ha'] at hacc hnext
      have HNEXT := Lib.hid hnext
      have S1 := Lib.hid (HSA.out.nil ((Mods.refl Nil wr).alloc (.cells #[.int .u8 (k : Int)] 5)))
      have R1 := Lib.hid (HBA.out.alloc (.cells #[.int .u8 (k : Int)] 5))
      have HACC : Hid (Calls Try.prog 15 #[.pointer (some ⟨b, 0, none⟩), .agg #[.int .u64 (k : Int), .int .u64 3, .slice (some ⟨wr.heap.size, 0, none⟩) 1 1]] (wr.alloc (.cells #[.int .u8 (k : Int)] 5)) fun e W' => e = .returned (.int .i64 0) ∧ AccS W0 W' (fun q => q = g) b a' (i + 1) ∧ Mods (AM W0 (fun q => q = g)) (wr.alloc (.cells #[.int .u8 (k : Int)] 5)) W') := Lib.hid (by
        have h := S1.out.acc (v := ⟨k, 3, [UInt8.ofNat k]⟩) (n := 1) (c := 1) (A := some ⟨wr.heap.size, 0, none⟩) (by omega) (by simp; omega) (by simp) rfl (by omega) (one_byte13 wr 5 (by omega))
        rw [hacc, haE] at h
        exact h)
      clear hv hk hacc hnext haE ha'
      go_wp2_with (go_at_call 15; refine (HACC.out).mono ?_; rintro e w4 ⟨rfl, s4, m4⟩; have S4 := Lib.hid s4; have hr4 := R1.out.mods m4 (fun h => h.2 rfl); have R4 := Lib.hid hr4; have c40 := hr4.rowcell hk16; have f40 := hr4.frozen k; clear s4 m4 hr4)
      have hm5 : Mods (fun q => q = g) w4 (w4.setCell ⟨g, k, none⟩ (.bool true)) := Mods.setCell (S := fun q => q = g) (p := ⟨g, k, none⟩) (Mods.refl _ _) (fun _ => rfl) _
      refine ⟨⟨i + 1, a', by omega, by go_num, HNEXT.out, S4.out.keep hm5 (fun q hq => ⟨hq, by subst hq; exact HGW.out⟩), ?_⟩, by simp [intOf]; omega⟩
      have hr5 := R4.out.rowset k (.bool true)
      have he : rowF (fun j => if j = k then Value.bool true else hasV a.L j) 16 = rowF (hasV a'.L) 16 := rowF_congr (fun j _ => by
        rw [← HA'.out, hasV_ins _ HSA.out.rise])
      rw [he] at hr5
      exact hr5
    · obtain rfl : i = n := by omega
      obtain ⟨E1, hE1⟩ : ∃ E1, fromV ff a.L = E1 := ⟨_, rfl⟩
      obtain ⟨m, hm⟩ : ∃ m, E1.length = m := ⟨_, rfl⟩
      have HE1 := Lib.hid hE1
      have HM := Lib.hid hm
      have hm30 : m ≤ 30 := by have h1 := fromV_le ff a.L; have h2 := HSA.out.len; rw [hE1, hm] at h1; omega
      obtain ⟨hfo1, hfo2⟩ := HP.out.forget ff
      rw [hE1, HH2.out] at hfo2
      rw [hE1] at hfo1
      obtain ⟨a1, ha1⟩ : ∃ a1 : PAc, { prom := a.prom, low := ff, L := E1 } = a1 := ⟨_, rfl⟩
      rw [ha1] at hfo1 hfo2
      have hpr : a1.prepE 3 = 0 ∧ a1.told 3 0 = E1 ∧ a1.prepare 3 = { prom := 3, low := ff, L := E1 } := by
        rw [← ha1]
        have := HP.out.prom
        unfold PAc.prepE PAc.told PAc.prepare
        simp only [fromV_zero]
        rw [if_neg (by omega), if_neg (by omega), if_neg (by omega)]
        exact ⟨rfl, rfl, rfl⟩
      have HF1 := Lib.hid (HSA.out.forg (s := ff) (by omega) (by omega))
      rw [hfo1] at HF1
      have HF2 : Hid (∀ V, AccS W0 V (fun q => q = g) b a1 i → Calls Try.prog 17 #[.pointer (some ⟨b, 0, none⟩), .int .u64 (h2 : Int)] V fun e W' => e = .returned (.tuple #[]) ∧ AccS W0 W' (fun q => q = g) b a1 i ∧ Mods (AM W0 (fun q => q = g)) V W') := Lib.hid (fun V hV => by
        have h := hV.forg (s := h2) (by omega) (by omega)
        rw [hfo2] at h
        exact h)
      have HP1 : Hid (∀ V, AccS W0 V (fun q => q = g) b a1 i → Calls Try.prog 11 #[.pointer (some ⟨b, 0, none⟩), .int .u64 3, .int .u64 0] V fun e W' => ∃ A c L, e = .returned (.tuple #[.slice A m c, .int .i64 0]) ∧ L.map VtP.plain = E1 ∧ PVs W' (XN (fun _ => False) V W') A c m L ∧ AccS W0 W' (XN (fun q => q = g) V W') b { prom := 3, low := ff, L := E1 } i ∧ Mods (AM W0 (fun q => q = g)) V W') := Lib.hid (fun V hV => (hV.prep (bal := 3) (f := 0) (by omega) (by omega) (by omega)).mono fun e W' ⟨A, c, n, L, h1, h2, h3, h4, h5⟩ => by
        rw [hpr.1] at h1
        rw [hpr.2.1] at h2
        rw [hpr.2.2] at h4
        obtain rfl : n = m := by rw [← h3.len, ← hm, ← h2]; simp
        exact ⟨A, c, L, h1, h2, h3.sub (fun k hk => .inr hk), h4, h5⟩)
      have hwf : IntKind.u64.wrap (ff : Int) = (ff : Int) := by rw [IntKind.wrap_u64]; omega
      have HP3 : Hid (∀ v ∈ a.L, v.slot < 16 ∧ v.val = [UInt8.ofNat v.slot]) := Lib.hid HP.out.vs
      have HRISE := Lib.hid HSA.out.rise
      clear hE1 hm hfo1 hfo2 ha1 hpr
      go_wp2_with (first
        | (go_at_call 21; refine (S6.out.low_).mono ?_; rintro e w7 ⟨rfl, m7⟩; have S7 := Lib.hid (S6.out.nil m7); have V7 := Lib.hid (V6.out.nil m7); have R7 := Lib.hid (R6.out.mods m7 (fun h => h)); clear m7 S6 V6 R6)
        | (go_at_call 11; refine (HP1.out _ S5.out).mono ?_; rintro e w6 ⟨A6, c6, L6, rfl, l6, v6, s6, m6⟩; have L6' := Lib.hid l6; have V6 := Lib.hid v6; have S6 := Lib.hid s6; have R6 := Lib.hid (R5.out.mods m6 (fun hk => hk.2 rfl)); have HRX : Hid (g < w5.heap.size) := Lib.hid R5.out.lt; clear l6 v6 s6 m6 R5 S5)
        | (go_at_call 17; have hx := S4.out; clear hx; refine (HF2.out _ S4.out).mono ?_; rintro e w5 ⟨rfl, s5, m5⟩; have S5 := Lib.hid s5; have R5 := Lib.hid (R4.out.mods m5 (fun hk => hk.2 rfl)); clear s5 m5 S4 R4)
        | (go_at_call 17; refine (HF1.out).mono ?_; rintro e w4 ⟨rfl, s4, m4⟩; have S4 := Lib.hid s4; have R4 := Lib.hid (HBA.out.mods m4 (fun hk => hk.2 rfl)); clear s4 m4))
      have HLL := Lib.hid (show L6.length = m by have := congrArg List.length L6'.out; rw [List.length_map, HM.out] at this; exact this)
      obtain ⟨X, hX⟩ : ∃ X : Nat → Prop, XN (fun q => q = g) w5 w6 = X := ⟨_, rfl⟩
      rw [hX] at S7
      have HX1 : Hid (X g) := Lib.hid (by rw [← hX]; exact .inl rfl)
      have HX2 : Hid (∀ k, XN (fun _ => False) w5 w6 k → X k) := Lib.hid (fun k hk => by rw [← hX]; rcases hk with h | h; exact h.elim; exact .inr h)
      clear hX
      go_loopw [13, 14] (fun x y wr' => ∃ (k p : Nat) (a' : PAc), k ≤ 16 ∧ cntV E1 k = p ∧ a'.prom = 3 ∧ a'.low = ff ∧ x = .int .i64 (p : Int) ∧ y = .int .i64 (k : Int) ∧ AccS W0 wr' X b a' (i + k) ∧ Mods (AM W0 X) w7 wr') (fun _ y _ => 16 - (intOf y).toNat)
      case atStart => exact ⟨0, 0, { prom := 3, low := ff, L := E1 }, by omega, cntV_zero _, rfl, rfl, rfl, rfl, S7.out, Mods.refl _ _⟩
      case round =>
        obtain ⟨k, p, a', hk2, hcp, hap, hal, rfl, rfl, hs8, hm8⟩ := hrel
        have HCP := Lib.hid hcp
        have M8 := Lib.hid hm8
        have S8 := Lib.hid hs8
        clear hcp hm8 hs8
        by_cases h16 : k < 16
        · have h16I : (k : Int) < 16 := by omega
          have hlk : lookV E1 k = if ff ≤ k then lookV a.L k else none := by rw [← HE1.out, lookV_from HRISE.out]
          have k4 : IntKind.u8.wrap (k : Int) = (k : Int) := by rw [IntKind.wrap_u8']; omega
          have k5 : IntKind.u64.wrap (k : Int) = (k : Int) := by rw [IntKind.wrap_u64]; omega
          have S81 := Lib.hid (S8.out.nil ((Mods.refl Nil wr).alloc (.cells #[.int .u8 (k : Int)] 5)))
          have HACC : Hid (Calls Try.prog 15 #[.pointer (some ⟨b, 0, none⟩), .agg #[.int .u64 (k : Int), .int .u64 3, .slice (some ⟨wr.heap.size, 0, none⟩) 1 1]] (wr.alloc (.cells #[.int .u8 (k : Int)] 5)) fun e W' => e = .returned (.int .i64 (a'.accE ⟨k, 3, [UInt8.ofNat k]⟩ : Int)) ∧ AccS W0 W' X b (a'.accept ⟨k, 3, [UInt8.ofNat k]⟩) (i + k + 1) ∧ Mods (AM W0 X) (wr.alloc (.cells #[.int .u8 (k : Int)] 5)) W') := Lib.hid (S81.out.acc (v := ⟨k, 3, [UInt8.ofNat k]⟩) (n := 1) (c := 1) (A := some ⟨wr.heap.size, 0, none⟩) (by omega) (by simp; omega) (by simp) rfl (by omega) (one_byte13 wr 5 (by omega)))
          have M81 := Lib.hid (M8.out.alloc (.cells #[.int .u8 (k : Int)] 5))
          have hpl : ∀ v : PVt, v.bal = 3 → (a'.accept v).prom = 3 ∧ (a'.accept v).low = ff := fun v hv => by
            unfold PAc.accept
            rw [hv, hap, hal]
            split
            · exact ⟨hap, hal⟩
            · split
              · exact ⟨hap, hal⟩
              · exact ⟨rfl, rfl⟩
          have HPL := Lib.hid (hpl ⟨k, 3, [UInt8.ofNat k]⟩ rfl)
          obtain ⟨a8, ha8⟩ : ∃ a8, a'.accept ⟨k, 3, [UInt8.ofNat k]⟩ = a8 := ⟨_, rfl⟩
          rw [ha8] at HACC HPL
          have hrc := (R7.out.mods M8.out (fun hk => hk.2 HX1.out)).rowcell h16
          clear hpl ha8
          by_cases hkf : k < ff
          · have hE15 : a'.accE ⟨k, 3, [UInt8.ofNat k]⟩ = 15 := by unfold PAc.accE; rw [hap, hal]; simp [hkf]
            rw [hE15] at HACC
            have g1 : decide ((k : Int) < (ff : Int)) = true := by simp; omega
            have g1N : decide (k < ff) = true := by simp; omega
            have g2 : decide ((ff : Int) ≤ (k : Int)) = false := by simp; omega
            have g2N : decide (ff ≤ k) = false := by simp; omega
            have HC2 := Lib.hid (show cntV E1 (k + 1) = p by rw [← HCP.out]; exact cntV_none (by rw [hlk, if_neg (by omega)]))
            clear hlk hE15 hkf hap hal
            cases hr : (lookV a.L k).isSome with
            | true =>
              have hr0 : hasV a.L k = .bool true := by unfold hasV; rw [hr]
              clear hr
              go_wp2_with (go_at_call 15; refine (HACC.out).mono ?_; rintro e w9 ⟨rfl, s9, m9⟩; have S9 := Lib.hid s9; have M9 := Lib.hid (M81.out.trans m9); have hrc := ((R7.out.mods M8.out (fun hk => hk.2 HX1.out)).alloc (.cells #[.int .u8 (k : Int)] 5)).mods m9 (fun hk => hk.2 HX1.out); have hrc := hrc.rowcell h16; rw [hr0] at hrc; clear s9 m9)
              exact ⟨⟨k + 1, p, a8, by omega, HC2.out, HPL.out.1, HPL.out.2, rfl, by go_num, S9.out, M9.out⟩, by simp [intOf]; omega⟩
            | false =>
              have hr0 : hasV a.L k = .bool false := by unfold hasV; rw [hr]
              clear hr
              go_wp2_with (go_at_call 15; refine (HACC.out).mono ?_; rintro e w9 ⟨rfl, s9, m9⟩; have S9 := Lib.hid s9; have M9 := Lib.hid (M81.out.trans m9); have hrc := ((R7.out.mods M8.out (fun hk => hk.2 HX1.out)).alloc (.cells #[.int .u8 (k : Int)] 5)).mods m9 (fun hk => hk.2 HX1.out); have hrc := hrc.rowcell h16; rw [hr0] at hrc; clear s9 m9)
              exact ⟨⟨k + 1, p, a8, by omega, HC2.out, HPL.out.1, HPL.out.2, rfl, by go_num, S9.out, M9.out⟩, by simp [intOf]; omega⟩
          · have hE0 : a'.accE ⟨k, 3, [UInt8.ofNat k]⟩ = 0 := by unfold PAc.accE; rw [hap, hal]; simp [hkf]
            rw [hE0] at HACC
            have g1 : decide ((k : Int) < (ff : Int)) = false := by simp; omega
            have g1N : decide (k < ff) = false := by simp; omega
            have g2 : decide ((ff : Int) ≤ (k : Int)) = true := by simp; omega
            have g2N : decide (ff ≤ k) = true := by simp; omega
            rw [if_pos (by omega)] at hlk
            cases hl : lookV a.L k with
            | none =>
              have hr0 : hasV a.L k = .bool false := by unfold hasV; rw [hl]; rfl
              have HC2 := Lib.hid (show cntV E1 (k + 1) = p by rw [← HCP.out]; exact cntV_none (by rw [hlk, hl]))
              clear hlk hl hE0 hkf hap hal
              go_wp2_with (go_at_call 15; refine (HACC.out).mono ?_; rintro e w9 ⟨rfl, s9, m9⟩; have S9 := Lib.hid s9; have M9 := Lib.hid (M81.out.trans m9); have hrc := ((R7.out.mods M8.out (fun hk => hk.2 HX1.out)).alloc (.cells #[.int .u8 (k : Int)] 5)).mods m9 (fun hk => hk.2 HX1.out); have hrc := hrc.rowcell h16; rw [hr0] at hrc; clear s9 m9)
              exact ⟨⟨k + 1, p, a8, by omega, HC2.out, HPL.out.1, HPL.out.2, rfl, by go_num, S9.out, M9.out⟩, by simp [intOf]; omega⟩
            | some v =>
              have hr0 : hasV a.L k = .bool true := by unfold hasV; rw [hl]; rfl
              obtain ⟨hv1, hv2⟩ := cntV_some (by rw [← HE1.out]; exact HRISE.out.from ff) (hlk.trans hl)
              obtain ⟨hva, hvs⟩ := lookV_some hl
              obtain ⟨-, hvv⟩ := HP3.out v hva
              obtain ⟨s, d, vv⟩ := v
              simp only at hvs hvv hv1
              subst hvs
              subst hvv
              rw [HCP.out] at hv1 hv2
              have hpm : p < m := by rw [← HM.out]; exact (List.getElem?_eq_some_iff.1 hv1).1
              obtain ⟨q, hq⟩ : ∃ q, L6[p]? = some q := ⟨_, List.getElem?_eq_getElem (by rw [HLL.out]; exact hpm)⟩
              have hqp : q.plain = ⟨s, d, [UInt8.ofNat s]⟩ := by
                rw [← L6'.out, List.getElem?_map, hq] at hv1
                simpa using hv1
              obtain ⟨qs, qb, B, cb, qv⟩ := q
              simp only [VtP.plain, PVt.mk.injEq] at hqp
              obtain ⟨rfl, rfl, rfl⟩ := hqp
              have HV81 := Lib.hid (V7.out.mods M81.out (fun k hk hd => hk.2 (HX2.out k hd)))
              obtain ⟨b2, o2, hA4, hb2, -⟩ := HV81.out.cells hq
              subst hA4
              have hby0 := (HV81.out.bys _ (List.mem_of_getElem? hq)).1
              simp only at hby0
              obtain ⟨b3, o3, hB3, hb3, -⟩ := sl_byte13 hby0 (j := 0) (by simp)
              subst hB3
              have hdd : (UInt8.ofNat qs).toNat = qs := by simp; omega
              have HCELL : Hid (∀ V, Mods (AM W0 X) (wr.alloc (.cells #[.int .u8 (qs : Int)] 5)) V → (V.cell? ⟨b2, o2 + p * 3, none⟩ = some (.int .u64 (qs : Int)) ∧ V.cell? ⟨b2, o2 + p * 3 + 2, none⟩ = some (.slice (some ⟨b3, o3, none⟩) 1 cb)) ∧ V.cell? ⟨b3, o3, none⟩ = some (.int .u8 (qs : Int))) := Lib.hid (fun V hV => by
                have hp := HV81.out.mods hV (fun k hk hd => hk.2 (HX2.out k hd))
                obtain ⟨e0, e1, e2⟩ := hp.cell3 hq
                have hby := (hp.bys _ (List.mem_of_getElem? hq)).1
                simp only at e0 e2 hby
                obtain ⟨b4, o4, hB4, _, e3⟩ := sl_byte13 hby (j := 0) (by simp)
                injection hB4 with hB4
                injection hB4 with h1 h2
                subst h1; subst h2
                simp only [List.getElem_cons_zero, hdd, Nat.add_zero] at e3
                exact ⟨⟨e0, e2⟩, e3⟩)
              have hpmI : decide ((m : Int) ≤ (p : Int)) = false := by simp; omega
              have hpmN : decide (m ≤ p) = false := by simp; omega
              have hpmL : (p : Int) < (m : Int) := by omega
              have HV2 := Lib.hid hv2
              clear hlk hl hE0 hkf hap hal hv1 hv2 hva hq hby0 hdd hpm
              go_wp2_with (go_at_call 15; refine (HACC.out).mono ?_; rintro e w9 ⟨rfl, s9, m9⟩; have S9 := Lib.hid s9; have M9 := Lib.hid (M81.out.trans m9); have hrc := ((R7.out.mods M8.out (fun hk => hk.2 HX1.out)).alloc (.cells #[.int .u8 (qs : Int)] 5)).mods m9 (fun hk => hk.2 HX1.out); have hrc := hrc.rowcell h16; rw [hr0] at hrc; obtain ⟨⟨t0, t2⟩, t3⟩ := HCELL.out _ m9; clear s9 m9)
              exact ⟨⟨qs + 1, p + 1, a8, by omega, HV2.out, HPL.out.1, HPL.out.2, by go_num, by go_num, S9.out, M9.out⟩, by simp [intOf]; omega⟩
        · obtain rfl : k = 16 := by omega
          have hpm : p = m := by rw [← HCP.out, ← HM.out]; exact cntV_all (fun v hv => by rw [← HE1.out] at hv; exact (HP3.out v (fromV_mem hv).1).1)
          subst hpm
          go_wp2
          go_ret
          exact ⟨rfl, M1.out.trans S8.out.m⟩
end Go.Proofs.Ythkejoabppocoaa
