/- LearnerKeeps: what is known stays. -/
import Derived.Test.YtbpflkjodiaokaaHelp14
import Derived.Deep.QuietTactic
import Derived.BigQuiet
namespace Go.Proofs.Ytbpflkjodiaokaa
set_option maxRecDepth 1000000
open Go.RowKit
set_option linter.unusedVariables false
set_option linter.unusedSimpArgs false

set_option maxHeartbeats 6400000 in
theorem learnerKeeps_walk (w : World) {A : Option Addr} {c n : Nat} {xs : List UInt8} (hn : xs.length = n) (hs : Sl w A c (bts xs)) {ai : Int} (wa : (Lit.int .u8 ai).wf = true) {bi : Int} (wb : (Lit.int .u8 bi).wf = true) :
    Calls Try.prog 5 #[.slice A n c, .int .u8 ai, .int .u8 bi] w fun e w' => e = .returned (.bool true) ∧ Mods Nil w w' := by
  obtain ⟨i0, hi0, hz0, hz1, hz2⟩ := info_parts infoInt14
  have ha0 := u8_of_wf wa
  have hb0 := u8_of_wf wb
  obtain ⟨a, rfl⟩ : ∃ a : UInt8, ai = (a.toNat : Int) := ⟨UInt8.ofNat ai.toNat, by simp; omega⟩
  obtain ⟨b, rfl⟩ : ∃ b : UInt8, bi = (b.toNat : Int) := ⟨UInt8.ofNat bi.toNat, by simp; omega⟩
  clear wa wb ha0 hb0
  have HS := Lib.hid hs
  have HN := Lib.hid hn
  clear hs hn
  by_cases h40 : 40 < n
  · have h40I : decide ((40 : Int) < (n : Int)) = true := by simp; omega
    have h40N : decide (40 < n) = true := by simp; omega
    go_enter Try.func5, Try.ntmps5
    go_wp2_with (go_at_call 7; refine (awake14_any _).mono ?_; rintro e w1 ⟨rfl, m1⟩; have M1 := Lib.hid m1; clear m1)
    go_ret
    exact ⟨rfl, M1.out⟩
  have h40I : decide ((40 : Int) < (n : Int)) = false := by simp; omega
  have h40N : decide (40 < n) = false := by simp; omega
  go_enter Try.func5, Try.ntmps5
  go_wp2_with (first
    | (go_at_call 7; refine (awake14_any _).mono ?_; rintro e w1 ⟨rfl, m1⟩; have M1 := Lib.hid m1; clear m1)
    | (go_at_call 8; refine (lrn_new _).mono ?_; rintro e w2 ⟨b0, rfl, s2⟩; have S2 := Lib.hid s2; clear s2)
    | (at_make; go_loud (refine wpList_make_row _ rfl _ _ 48 rfl 3 i0 (.int .i64 0) Try.underlying48 hi0 hz0 hz1 rfl .i64 .i64 8 rfl rfl (by rw [hz2]; omega) (by omega) ?_); rw [made_rowF _ rfl 8]; have B3 := Lib.hid (Blk.new w2 3 (rowF (fun _ => .int .i64 0) 8)); have S3 := Lib.hid (S2.out.more ((Mods.refl Nil w2).alloc (.cells (rowF (fun _ => .int .i64 0) 8) 3)) (Y := fun k => k = w2.heap.size) (fun k hk => .inr ⟨by omega, by simp; omega⟩)); obtain ⟨w3, hw3⟩ : ∃ w3, w2.alloc (.cells (rowF (fun _ => .int .i64 0) 8) 3) = w3 := ⟨_, rfl⟩; obtain ⟨g, hg⟩ : ∃ g, w2.heap.size = g := ⟨_, rfl⟩; rw [hw3, hg] at S3 B3; rw [hw3, hg]; clear hw3))
  obtain ⟨W0, hW0⟩ : ∃ W0, w1 = W0 := ⟨_, rfl⟩
  have HGW : Hid (W0.heap.size ≤ g) := Lib.hid (by rw [← hW0, ← hg]; exact S2.out.m.size)
  rw [hW0] at M1 S2 S3
  go_loopw [10] (fun x wr => ∃ (i : Nat) (L : List KV), i ≤ n ∧ x = .int .i64 (i : Int) ∧ (∀ k v, lookL L k = some v → ∃ y, v = [y]) ∧ LrS W0 wr (fun k => k = g) b0 L i ∧ Blk wr g 3 (rowF (firstV L) 8)) (fun x _ => n - (intOf x).toNat)
  case atStart => exact ⟨0, [], Nat.zero_le _, rfl, (fun k v h => by rw [lookL_nil] at h; cases h), S3.out, B3.out⟩
  case round =>
    obtain ⟨i, L, hi, rfl, hp, hsa, hba⟩ := hrel
    have HP := Lib.hid hp
    have HSA := Lib.hid hsa
    have HBA := Lib.hid hba
    clear hp hsa hba
    by_cases hlt : i < n
    · have hltI : (i : Int) < (n : Int) := by omega
      obtain ⟨b1, o1, rfl, hb1, hcell⟩ := sl_byte14 (HS.out.mods (M1.out.trans HSA.out.m) (fun _ _ h => h)) (j := i) (by rw [HN.out]; exact hlt)
      obtain ⟨v, hv⟩ : ∃ v, xs[i]'(by rw [HN.out]; exact hlt) = v := ⟨_, rfl⟩
      rw [hv] at hcell
      obtain ⟨k, hk⟩ : ∃ k, v.toNat % 8 = k := ⟨_, rfl⟩
      have hand : bits .and .u8 (v.toNat : Int) 7 = (k : Int) := by rw [u8_and7v, hk]
      have hk8 : k < 8 := by omega
      have hk8I : (k : Int) < 8 := by omega
      have hwk : IntKind.u64.wrap (k : Int) = (k : Int) := by rw [IntKind.wrap_u64]; omega
      clear hv hk
      obtain ⟨X, hX⟩ : ∃ X : UInt8, ((bits .and .u8 (v.toNat : Int) 8 == 8) = true ∧ X = b) ∨ ((bits .and .u8 (v.toNat : Int) 8 == 8) = false ∧ X = a) := by
        cases hB : (bits .and .u8 (v.toNat : Int) 8 == 8)
        · exact ⟨a, .inr ⟨rfl, rfl⟩⟩
        · exact ⟨b, .inl ⟨rfl, rfl⟩⟩
      have hX8 := X.toNat_lt
      have hX64 : IntKind.i64.wrap (X.toNat : Int) = (X.toNat : Int) := by rw [IntKind.wrap_i64]; omega
      have hX65 : IntKind.i64.wrap ((X.toNat : Int) + 1) = (X.toNat : Int) + 1 := by rw [IntKind.wrap_i64]; omega
      have hX66 : (X.toNat : Int) + 1 - 1 = (X.toNat : Int) := by omega
      have HX8 := Lib.hid hX8
      clear hX8
      have hgl : g < wr.heap.size := HBA.out.lt
      have HGL := Lib.hid hgl
      clear hgl
      obtain ⟨G, hG⟩ : ∃ G, wr.heap.size = G := ⟨_, rfl⟩
      have R1 := Lib.hid (HBA.out.alloc (.cells #[.int .u8 (X.toNat : Int)] 5))
      obtain ⟨E, hE⟩ : ∃ E, learnE L k [X] = E := ⟨_, rfl⟩
      obtain ⟨L', hL'⟩ : ∃ L', learnL L k [X] = L' := ⟨_, rfl⟩
      have HLEARN : Hid (Calls Try.prog 9 #[.pointer (some ⟨b0, 0, none⟩), .int .u64 (k : Int), .slice (some ⟨G, 0, none⟩) 1 1] (wr.alloc (.cells #[.int .u8 (X.toNat : Int)] 5)) fun e W' => e = .returned (.int .i64 (E : Int)) ∧ LrS W0 W' (fun q => q = g) b0 L' (i + 1) ∧ Mods (LM W0 (fun q => q = g)) (wr.alloc (.cells #[.int .u8 (X.toNat : Int)] 5)) W') := Lib.hid (by
        have h := (HSA.out.nil ((Mods.refl Nil wr).alloc (.cells #[.int .u8 (X.toNat : Int)] 5))).learn (by omega) (s := k) (by omega) (v := [X]) (n := 1) (c := 1) (A := some ⟨G, 0, none⟩) rfl (by omega) (by rw [← hG]; have h1 := one_byte14 wr 5 HX8.out; rwa [UInt8.ofNat_toNat] at h1)
        rw [hE, hL'] at h
        exact h)
      have HGET : Hid (∀ (V : World) (z : UInt8), LrS W0 V (fun q => q = g) b0 L' (i + 1) → lookL L' k = some [z] → Calls Try.prog 18 #[.pointer (some ⟨b0, 0, none⟩), .int .u64 (k : Int)] V fun e W' => ∃ A c, e = .returned (.tuple #[.slice A 1 c, .bool true]) ∧ Sl W' A c (bts [z]) ∧ Mods Nil V W') := Lib.hid (fun V z hV hz => (hV.get (by omega) (s := k) (by omega)).mono fun e W' ⟨A, n, c, h1, h2, h3⟩ => by
        obtain ⟨h4, h5⟩ := h2 [z] hz
        obtain rfl : n = 1 := h4.symm
        rw [hz] at h1
        exact ⟨A, c, h1, h5, h3⟩)
      have HG0 := Lib.hid HGW.out
      have HW0 := Lib.hid (show W0.heap.size ≤ wr.heap.size from HSA.out.m.size)
      cases hl : lookL L k with
      | none =>
        have hE0 : E = 0 := by rw [← hE]; unfold learnE; rw [if_neg (by omega), hl]
        have hL0 : L' = L ++ [(k, [X])] := by rw [← hL']; unfold learnL; rw [if_neg (by omega), hl]
        have HL0 := Lib.hid hL0
        have HNO := Lib.hid hl
        have HLK : Hid (lookL L' k = some [X]) := Lib.hid (by rw [hL0, lookL_snoc, hl]; simp)
        have hr0 : firstV L k = .int .i64 0 := by unfold firstV; rw [hl]
        have HR0 := Lib.hid hr0
        subst hE0
        clear hE hL' hL0 hl hr0
        rcases hX with ⟨hB, rfl⟩ | ⟨hB, rfl⟩
        all_goals
          have hBd : decide (bits .and .u8 (v.toNat : Int) 8 = 8) = (bits .and .u8 (v.toNat : Int) 8 == 8) := by simp [BEq.beq]
          rw [hB] at hBd
          go_wp2_with (first
            | (go_at_call 18; go_loud (refine (HGET.out _ X S5.out HLK.out).mono ?_); rintro e w6 ⟨A6, c6, rfl, v6, m6⟩; have S6 := Lib.hid (S5.out.nil m6); have R6 := Lib.hid (R5.out.mods m6 (fun h => h)); have c61 := R6.out.rowcell hk8; rw [if_pos rfl] at c61; obtain ⟨b3, o3, rfl, hb3, e3⟩ := sl_byte14 v6 (j := 0) (by simp); simp only [List.getElem_cons_zero, Nat.add_zero] at e3; clear S5 R5 v6 m6)
            | (go_at_call 9; go_loud (refine (HLEARN.out).mono ?_); rintro e w4 ⟨rfl, s4, m4⟩; have hr4 := R1.out.mods m4 (fun h => h.2 rfl); have c4 := hr4.rowcell hk8; rw [HR0.out] at c4; have f4 := hr4.frozen k; have S5 := Lib.hid (s4.keep (Mods.setCell (S := fun q => q = g) (p := ⟨g, k, none⟩) (Mods.refl _ _) (fun _ => rfl) (.int .i64 ((X.toNat : Int) + 1))) (fun q hq => ⟨hq, by rw [hq]; exact HG0.out⟩)); have R5 := Lib.hid (hr4.rowset k (.int .i64 ((X.toNat : Int) + 1))); clear s4 m4 hr4))
          go_quiet (fail)
          go_wp2
          refine ⟨⟨i + 1, L', by omega, by go_num, ?_, S6.out.nil ((Mods.refl Nil _).drewN _), ?_⟩, by simp [intOf]; omega⟩
          · intro q u hq
            rw [HL0.out, lookL_snoc] at hq
            cases h9 : lookL L q with
            | none =>
              rw [h9] at hq
              by_cases h8 : k = q
              · rw [if_pos h8] at hq; exact ⟨X, (Option.some.inj hq).symm⟩
              · rw [if_neg h8] at hq; cases hq
            | some u' =>
              rw [h9] at hq
              obtain rfl := Option.some.inj hq
              exact HP.out q _ h9
          · have he : rowF (fun j => if j = k then Value.int .i64 ((X.toNat : Int) + 1) else firstV L j) 8 = rowF (firstV L') 8 := rowF_congr (fun j _ => by
              rw [HL0.out, firstV_snoc HNO.out]
              simp)
            rw [← he]
            exact R6.out.mods ((Mods.refl Nil _).drewN _) (fun h => h)
      | some u =>
        obtain ⟨y, rfl⟩ := HP.out k u hl
        have hr0 : firstV L k = .int .i64 ((y.toNat + 1 : Nat) : Int) := by unfold firstV; rw [hl]
        have hL0 : L' = L := by rw [← hL']; unfold learnL; rw [if_neg (by omega), hl]
        subst hL0
        have HLK := Lib.hid hl
        obtain ⟨D, hD⟩ : ∃ D, y.toNat + 1 = D := ⟨_, rfl⟩
        have hy8 := y.toNat_lt
        rw [hD] at hr0
        have k0 : decide ((0 : Int) < (D : Int)) = true := by simp; omega
        have k0n : decide (0 < D) = true := by simp; omega
        have k3 : IntKind.i64.wrap ((D : Int) - 1) = (y.toNat : Int) := by rw [IntKind.wrap_i64]; omega
        have k6 : (D : Int) - 1 = (y.toNat : Int) := by omega
        have k8 : IntKind.i64.wrap (y.toNat : Int) = (y.toNat : Int) := by rw [IntKind.wrap_i64]; omega
        have k7 : ((D : Int) == 0) = false := by rw [beq_eq_false_iff_ne]; omega
        have HR0 := Lib.hid hr0
        clear hr0 hy8 hD hL'
        by_cases hyX : y = X
        · subst hyX
          have hE0 : E = 31 := by rw [← hE]; unfold learnE; rw [if_neg (by omega), hl]; simp
          subst hE0
          clear hE hl
          rcases hX with ⟨hB, rfl⟩ | ⟨hB, rfl⟩
          all_goals
            have hBd : decide (bits .and .u8 (v.toNat : Int) 8 = 8) = (bits .and .u8 (v.toNat : Int) 8 == 8) := by simp [BEq.beq]
            rw [hB] at hBd
            go_wp2_with (first
              | (go_at_call 18; go_loud (refine (HGET.out _ y S5.out HLK.out).mono ?_); rintro e w6 ⟨A6, c6, rfl, v6, m6⟩; have S6 := Lib.hid (S5.out.nil m6); have R6 := Lib.hid (R5.out.mods m6 (fun h => h)); have c61 := R6.out.rowcell hk8; rw [HR0.out] at c61; obtain ⟨b3, o3, rfl, hb3, e3⟩ := sl_byte14 v6 (j := 0) (by simp); simp only [List.getElem_cons_zero, Nat.add_zero] at e3; clear S5 R5 v6 m6)
              | (go_at_call 9; go_loud (refine (HLEARN.out).mono ?_); rintro e w4 ⟨rfl, s4, m4⟩; have hr4 := R1.out.mods m4 (fun h => h.2 rfl); have c4 := hr4.rowcell hk8; rw [HR0.out] at c4; have f4 := hr4.frozen k; have S5 := Lib.hid s4; have R5 := Lib.hid hr4; clear s4 m4 hr4))
            go_quiet (fail)
            go_wp2
            exact ⟨⟨i + 1, L', by omega, by go_num, HP.out, S6.out.nil ((Mods.refl Nil _).drewN _), R6.out.mods ((Mods.refl Nil _).drewN _) (fun h => h)⟩, by simp [intOf]; omega⟩
        · have hE0 : E = 33 := by rw [← hE]; unfold learnE; rw [if_neg (by omega), hl]; simp [hyX]
          subst hE0
          have hne : ((y.toNat : Int) == (X.toNat : Int)) = false := by
            rw [beq_eq_false_iff_ne]
            intro h
            exact hyX (UInt8.toNat_inj.1 (by omega))
          have hne2 : ((y.toNat : Int) != (X.toNat : Int)) = true := by rw [bne, hne]; rfl
          have HNE := Lib.hid hyX
          clear hE hl hyX
          rcases hX with ⟨hB, rfl⟩ | ⟨hB, rfl⟩
          all_goals
            have hBd : decide (bits .and .u8 (v.toNat : Int) 8 = 8) = (bits .and .u8 (v.toNat : Int) 8 == 8) := by simp [BEq.beq]
            rw [hB] at hBd
            go_wp2_with (first
              | (go_at_call 18; go_loud (refine (HGET.out _ y S5.out HLK.out).mono ?_); rintro e w6 ⟨A6, c6, rfl, v6, m6⟩; have S6 := Lib.hid (S5.out.nil m6); have R6 := Lib.hid (R5.out.mods m6 (fun h => h)); have c61 := R6.out.rowcell hk8; rw [HR0.out] at c61; obtain ⟨b3, o3, rfl, hb3, e3⟩ := sl_byte14 v6 (j := 0) (by simp); simp only [List.getElem_cons_zero, Nat.add_zero] at e3; clear S5 R5 v6 m6)
              | (go_at_call 9; go_loud (refine (HLEARN.out).mono ?_); rintro e w4 ⟨rfl, s4, m4⟩; have hr4 := R1.out.mods m4 (fun h => h.2 rfl); have c4 := hr4.rowcell hk8; rw [HR0.out] at c4; have f4 := hr4.frozen k; have S5 := Lib.hid s4; have R5 := Lib.hid hr4; clear s4 m4 hr4))
            go_quiet (fail)
            go_wp2
            exact ⟨⟨i + 1, L', by omega, by go_num, HP.out, S6.out.nil ((Mods.refl Nil _).drewN _), R6.out.mods ((Mods.refl Nil _).drewN _) (fun h => h)⟩, by simp [intOf]; omega⟩
    · obtain rfl : i = n := by omega
      go_wp2
      go_ret
      exact ⟨rfl, M1.out.trans HSA.out.m⟩
end Go.Proofs.Ytbpflkjodiaokaa
