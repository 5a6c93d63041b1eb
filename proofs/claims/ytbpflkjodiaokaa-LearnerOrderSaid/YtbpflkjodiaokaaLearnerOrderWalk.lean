/- LearnerOrder: in whatever order values come, the same is known. -/
import Derived.Test.YtbpflkjodiaokaaOrd14
import Derived.Test.YtbpflkjodiaokaaInRows
import Derived.Deep.QuietTactic
import Derived.BigQuiet
namespace Go.Proofs.Ytbpflkjodiaokaa
set_option maxRecDepth 1000000
open Go.RowKit
set_option linter.unusedVariables false
set_option linter.unusedSimpArgs false

/-- What is known is what the rows say. -/
structure OrdP (l : List Row) (N : Nat) (L : List KV) : Prop where
  val : ∀ k v, lookL L k = some v → ∀ r, l[k]? = some r → r.xs = v
  lt : ∀ p ∈ L, p.1 < N
theorem OrdP.next {l : List Row} {N : Nat} {L : List KV} (h : OrdP l N L) {k : Nat} (hk : k < N) {r : Row} (hr : l[k]? = some r) : OrdP l N (L ++ [(k, r.xs)]) := by
  refine ⟨fun q v hq s hs => ?_, fun p hp => ?_⟩
  · rw [lookL_snoc] at hq
    cases hl : lookL L q with
    | none =>
      rw [hl] at hq
      by_cases hkq : k = q
      · subst hkq
        rw [hr] at hs
        simp at hq
        rw [← hq, Option.some.inj hs]
      · simp [hkq] at hq
    | some u =>
      rw [hl] at hq
      simp at hq
      subst hq
      exact h.val q u hl s hs
  · rcases List.mem_append.1 hp with hp | hp
    · exact h.lt p hp
    · rw [List.mem_singleton.1 hp]; exact hk

set_option maxHeartbeats 6400000 in
theorem learnerOrder_walk (w : World) {A1 : Option Addr} {c1 N : Nat} {l : List Row} (hn1 : l.length = N) (hs1 : Sl w A1 c1 (l.map Row.val)) (hr1 : ∀ r ∈ l, r.ok w) {A : Option Addr} {c m : Nat} {xs : List UInt8} (hn : xs.length = m) (hs : Sl w A c (bts xs)) :
    Calls Try.prog 4 #[.slice A1 N c1, .slice A m c] w fun e w' => e = .returned (.bool true) ∧ Mods Nil w w' := by
  obtain ⟨i0, hi0, hz0, hz1, hz2⟩ := info_parts infoBool14
  have HN := Lib.hid hn
  have HS := Lib.hid hs
  have HN1 := Lib.hid hn1
  have HS1 := Lib.hid hs1
  have HR1 := Lib.hid hr1
  clear hn hs hn1 hs1 hr1
  by_cases h20 : 20 < N
  · have g1 : decide ((20 : Int) < (N : Int)) = true := by simp; omega
    have g1N : decide (20 < N) = true := by simp; omega
    go_enter Try.func4, Try.ntmps4
    go_wp2_with (go_at_call 7; refine (awake14_any _).mono ?_; rintro e w1 ⟨rfl, m1⟩; have M1 := Lib.hid m1; clear m1)
    go_ret
    exact ⟨rfl, M1.out⟩
  have g1 : decide ((20 : Int) < (N : Int)) = false := by simp; omega
  have g1N : decide (20 < N) = false := by simp; omega
  by_cases h100 : 100 < m
  · have g2 : decide ((100 : Int) < (m : Int)) = true := by simp; omega
    have g2N : decide (100 < m) = true := by simp; omega
    go_enter Try.func4, Try.ntmps4
    go_wp2_with (go_at_call 7; refine (awake14_any _).mono ?_; rintro e w1 ⟨rfl, m1⟩; have M1 := Lib.hid m1; clear m1)
    go_ret
    exact ⟨rfl, M1.out⟩
  have g2 : decide ((100 : Int) < (m : Int)) = false := by simp; omega
  have g2N : decide (100 < m) = false := by simp; omega
  have gN1 : ¬ ((N : Int) < 0) := by omega
  have gN2 : decide ((N : Int) < 0) = false := by simp
  go_enter Try.func4, Try.ntmps4
  go_wp2_with (first
    | (go_at_call 7; refine (awake14_any _).mono ?_; rintro e w1 ⟨rfl, m1⟩; have M1 := Lib.hid m1; clear m1)
    | (go_at_call 8; refine (lrn_new _).mono ?_; rintro e w2 ⟨b0, rfl, s2⟩; have S2 := Lib.hid s2; clear s2)
    | (at_make; go_loud (refine wpList_make_row _ rfl _ _ 46 rfl 4 i0 (.bool false) Try.underlying46 hi0 hz0 hz1 rfl .i64 .i64 N rfl rfl (by rw [hz2]; omega) (by omega) ?_); rw [made_rowF _ rfl N]; have B3 := Lib.hid (Blk.new w2 4 (rowF (fun _ => .bool false) N)); have S3 := Lib.hid (S2.out.more ((Mods.refl Nil w2).alloc (.cells (rowF (fun _ => .bool false) N) 4)) (Y := fun k => k = w2.heap.size) (fun k hk => .inr ⟨by omega, by simp; omega⟩)); obtain ⟨w3, hw3⟩ : ∃ w3, w2.alloc (.cells (rowF (fun _ => .bool false) N) 4) = w3 := ⟨_, rfl⟩; obtain ⟨g, hg⟩ : ∃ g, w2.heap.size = g := ⟨_, rfl⟩; rw [hw3, hg] at S3 B3; rw [hw3, hg]; clear hw3))
  obtain ⟨W0, hW0⟩ : ∃ W0, w1 = W0 := ⟨_, rfl⟩
  have HGW : Hid (W0.heap.size ≤ g) := Lib.hid (by rw [← hW0, ← hg]; exact S2.out.m.size)
  rw [hW0] at M1 S2 S3
  go_loopw [9] (fun x wr => ∃ (i : Nat) (L : List KV), i ≤ m ∧ x = .int .i64 (i : Int) ∧ OrdP l N L ∧ LrS W0 wr (fun k => k = g) b0 L i ∧ Blk wr g 4 (rowF (hasKV L) N)) (fun x _ => m - (intOf x).toNat)
  case atStart => exact ⟨0, [], Nat.zero_le _, rfl, ⟨fun k v h => (by rw [lookL_nil] at h; cases h), fun p hp => (by cases hp)⟩, S3.out, B3.out⟩
  case round =>
    obtain ⟨i, L, hi, rfl, hp, hsa, hba⟩ := hrel
    have HP := Lib.hid hp
    have HSA := Lib.hid hsa
    have HBA := Lib.hid hba
    have hmW := M1.out.trans hsa.m
    have HMW := Lib.hid hmW
    clear hp hsa hba hmW
    by_cases hgo : i < m ∧ 0 < N
    · obtain ⟨hlt, hN0⟩ := hgo
      have hltI : (i : Int) < (m : Int) := by omega
      have hN0I : (0 : Int) < (N : Int) := by omega
      have hN0b : ((N : Int) == 0) = false := by rw [beq_eq_false_iff_ne]; omega
      have hN0n : ¬ ((N : Int) = 0) := by omega
      obtain ⟨b1, o1, rfl, hb1, e0⟩ := sl_byte14 (HS.out.mods HMW.out (fun _ _ h => h)) (j := i) (by rw [HN.out]; exact hlt)
      obtain ⟨y, hy⟩ : ∃ y, (xs[i]'(by rw [HN.out]; exact hlt)).toNat = y := ⟨_, rfl⟩
      have hy256 : y < 256 := by rw [← hy]; exact UInt8.toNat_lt _
      rw [hy] at e0
      clear hy
      obtain ⟨k, hk⟩ : ∃ k, y % N = k := ⟨_, rfl⟩
      have hkN : k < N := by rw [← hk]; exact Nat.mod_lt _ (by omega)
      have hkI : (k : Int) < (N : Int) := by omega
      have hrem : Int.tmod (y : Int) (N : Int) = (k : Int) := by rw [Int.tmod_eq_emod_of_nonneg (by omega), ← hk]; simp
      have hwy : IntKind.i64.wrap (y : Int) = (y : Int) := by rw [IntKind.wrap_i64]; omega
      have hwk : IntKind.i64.wrap (k : Int) = (k : Int) := by rw [IntKind.wrap_i64]; omega
      have hwk2 : IntKind.u64.wrap (k : Int) = (k : Int) := by rw [IntKind.wrap_u64]; omega
      clear hk
      have hkl : k < l.length := by rw [HN1.out]; exact hkN
      obtain ⟨b2, o2, rfl, hb2, hcs⟩ := (HS1.out.mods HMW.out (fun _ _ h => h)).at_ (by simp; omega)
      have e1 := hcs k _ (by rw [List.getElem?_map, List.getElem?_eq_getElem hkl]; rfl)
      have hrow := HR1.out _ (List.getElem_mem hkl)
      have hlk := List.getElem?_eq_getElem hkl
      generalize l[k] = r at e1 hrow hlk
      have HLK := Lib.hid hlk
      obtain ⟨B, cb, vv⟩ := r
      simp only [Row.val] at e1
      have hby : Sl w B cb (bts vv) := hrow
      obtain ⟨q, hq⟩ : ∃ q, vv.length = q := ⟨_, rfl⟩
      rw [hq] at e1
      have HQ := Lib.hid hq
      have HBY := Lib.hid hby
      clear hkl hcs hrow hby hq hlk
      by_cases h40 : 40 < q
      · have k1 : decide ((40 : Int) < (q : Int)) = true := by simp; omega
        have k1N : decide (40 < q) = true := by simp; omega
        go_wp2
        go_ret
        exact ⟨rfl, HMW.out⟩
      have k1 : decide ((40 : Int) < (q : Int)) = false := by simp; omega
      have k1N : decide (40 < q) = false := by simp; omega
      obtain ⟨E, hE⟩ : ∃ E, learnE L k vv = E := ⟨_, rfl⟩
      obtain ⟨L', hL'⟩ : ∃ L', learnL L k vv = L' := ⟨_, rfl⟩
      have HLEARN : Hid (Calls Try.prog 9 #[.pointer (some ⟨b0, 0, none⟩), .int .u64 (k : Int), .slice B q cb] wr fun e W' => e = .returned (.int .i64 (E : Int)) ∧ LrS W0 W' (fun q => q = g) b0 L' (i + 1) ∧ Mods (LM W0 (fun q => q = g)) wr W') := Lib.hid (by
        have h := HSA.out.learn (by omega) (s := k) (by omega) (v := vv) (n := q) (c := cb) (A := B) HQ.out (by omega) (HBY.out.mods HMW.out (fun _ _ h => h))
        rw [hE, hL'] at h
        exact h)
      have HG0 := Lib.hid HGW.out
      cases hl : lookL L k with
      | none =>
        have hE0 : E = 0 := by rw [← hE]; unfold learnE; rw [if_neg (by omega), hl]
        have hL0 : L' = L ++ [(k, vv)] := by rw [← hL']; unfold learnL; rw [if_neg (by omega), hl]
        have HL0 := Lib.hid hL0
        have HNX := Lib.hid (HP.out.next hkN HLK.out)
        have HR0 : Hid (hasKV L k = .bool false) := Lib.hid (by unfold hasKV hasK; rw [hl]; rfl)
        subst hE0
        clear hE hL' hL0 hl
        go_wp2_with (go_at_call 9; go_loud (refine (HLEARN.out).mono ?_); rintro e w4 ⟨rfl, s4, m4⟩; have hr4 := HBA.out.mods m4 (fun h => h.2 rfl); have c4 := hr4.rowcell hkN; rw [HR0.out] at c4; have f4 := hr4.frozen k; have S4 := Lib.hid s4; have R4 := Lib.hid hr4; clear s4 m4 hr4)
        refine ⟨⟨i + 1, L', by omega, by go_num, by rw [HL0.out]; exact HNX.out, S4.out.keep (S := fun q => q = g) (Mods.setCell (S := fun q => q = g) (p := ⟨g, k, none⟩) (Mods.refl _ _) (fun _ => rfl) _) (fun q hq => ⟨hq, by rw [hq]; exact HG0.out⟩), ?_⟩, by simp [intOf]; omega⟩
        have he : rowF (fun j => if j = k then Value.bool true else hasKV L j) N = rowF (hasKV L') N := rowF_congr (fun j _ => by rw [HL0.out, hasKV_snoc])
        rw [← he]
        exact R4.out.rowset k _
      | some u =>
        have hu : vv = u := HP.out.val k u hl _ HLK.out
        subst hu
        have hE0 : E = 31 := by rw [← hE]; unfold learnE; rw [if_neg (by omega), hl]; simp
        have hL0 : L' = L := by rw [← hL']; unfold learnL; rw [if_neg (by omega), hl]
        have HR0 : Hid (hasKV L k = .bool true) := Lib.hid (by unfold hasKV hasK; rw [hl]; rfl)
        subst hE0
        subst hL0
        clear hE hL' hl
        go_wp2_with (go_at_call 9; go_loud (refine (HLEARN.out).mono ?_); rintro e w4 ⟨rfl, s4, m4⟩; have hr4 := HBA.out.mods m4 (fun h => h.2 rfl); have c4 := hr4.rowcell hkN; rw [HR0.out] at c4; have f4 := hr4.frozen k; have S4 := Lib.hid s4; have R4 := Lib.hid hr4; clear s4 m4 hr4)
        refine ⟨⟨i + 1, L', by omega, by go_num, HP.out, S4.out.keep (S := fun q => q = g) (Mods.setCell (S := fun q => q = g) (p := ⟨g, k, none⟩) (Mods.refl _ _) (fun _ => rfl) _) (fun q hq => ⟨hq, by rw [hq]; exact HG0.out⟩), ?_⟩, by simp [intOf]; omega⟩
        have he : rowF (fun j => if j = k then Value.bool true else hasKV L' j) N = rowF (hasKV L') N := rowF_congr (fun j _ => by
          by_cases hj : j = k
          · rw [if_pos hj, hj, HR0.out]
          · rw [if_neg hj])
        rw [← he]
        exact R4.out.rowset k _
    · have hg1 : (i : Int) < (m : Int) → ¬ (0 : Int) < (N : Int) := by omega
      rcases (show ¬ (i : Int) < (m : Int) ∨ ((i : Int) < (m : Int) ∧ N = 0) by omega) with hx | ⟨hx, hx0⟩
      all_goals
        try have hx1 : ¬ (0 : Int) < (N : Int) := by omega
        try clear hx0
        clear hg1 hgo
        go_wp2
        try clear hx1
        clear hx
        go_loopw [12, 13, 15] (fun x y z wr' => ∃ k : Nat, k ≤ N ∧ z = .int .i64 (k : Int) ∧ x = .int .i64 (tpK L k : Int) ∧ y = .int .i64 (nxK L k : Int) ∧ Mods Nil wr wr') (fun _ _ z _ => N - (intOf z).toNat)
        case atStart => exact ⟨0, Nat.zero_le _, rfl, rfl, rfl, Mods.refl _ _⟩
        case round =>
          obtain ⟨k, hkN, rfl, rfl, rfl, hm5⟩ := hrel
          have M5 := Lib.hid hm5
          have S5 := Lib.hid (HSA.out.nil hm5)
          have R5 := Lib.hid (HBA.out.mods hm5 (fun h => h))
          clear hm5
          by_cases hlt2 : k < N
          · have hkI : (k : Int) < (N : Int) := by omega
            have hwk2 : IntKind.u64.wrap (k : Int) = (k : Int) := by rw [IntKind.wrap_u64]; omega
            have hwk3 : IntKind.i64.wrap ((k : Int) + 1) = (k : Int) + 1 := by rw [IntKind.wrap_i64]; omega
            have hkl : k < l.length := by rw [HN1.out]; exact hlt2
            obtain ⟨b2, o2, rfl, hb2, hcs⟩ := (HS1.out.mods (HMW.out.trans M5.out) (fun _ _ h => h)).at_ (by simp; omega)
            have e1 := hcs k _ (by rw [List.getElem?_map, List.getElem?_eq_getElem hkl]; rfl)
            have hrow := HR1.out _ (List.getElem_mem hkl)
            have hlk := List.getElem?_eq_getElem hkl
            generalize l[k] = r at e1 hrow hlk
            have HLK := Lib.hid hlk
            obtain ⟨B, cb, vv⟩ := r
            simp only [Row.val] at e1
            have hby : Sl w B cb (bts vv) := hrow
            obtain ⟨q, hq⟩ : ∃ q, vv.length = q := ⟨_, rfl⟩
            rw [hq] at e1
            have HQ := Lib.hid hq
            have HBY := Lib.hid hby
            have HB2 := Lib.hid hb2
            have E1 := Lib.hid e1
            have c5 := R5.out.rowcell hlt2
            obtain ⟨T, hT⟩ : ∃ T, tpK L k = T := ⟨_, rfl⟩
            obtain ⟨X, hX⟩ : ∃ X, nxK L k = X := ⟨_, rfl⟩
            have HT := Lib.hid hT
            have HX := Lib.hid hX
            rw [hT, hX]
            clear hkl hcs hrow hby hq hlk hT hX e1 hb2
            cases hl : lookL L k with
            | none =>
              have HR0 : Hid (hasK L k = false) := Lib.hid (by unfold hasK; rw [hl]; rfl)
              have hr0 : hasKV L k = .bool false := by unfold hasKV; rw [HR0.out]
              rw [hr0] at c5
              have hl2 := Lib.hid hl
              clear hr0 hl
              go_wp2_with (go_at_call 18; refine (S5.out.get (s := k) (by omega) (by omega)).mono ?_; rintro e w6 ⟨A6, n6, c6, he6, h6, m6⟩; rw [hl2.out] at he6; simp only [Option.isSome_none] at he6; subst he6; have M6 := Lib.hid m6; have c6x := (R5.out.mods m6 (fun h => h)).rowcell hlt2; rw [show hasKV L k = .bool false from (by unfold hasKV; rw [HR0.out])] at c6x; clear h6 m6)
              go_quiet (fail)
              go_wp2
              exact ⟨⟨k + 1, by omega, by go_num, by unfold tpK; rw [HR0.out, HT.out]; rfl, by unfold nxK; rw [HR0.out, HX.out]; rfl, M5.out.trans (M6.out.drewN _)⟩, by simp [intOf]; omega⟩
            | some u =>
              have hu : vv = u := HP.out.val k u hl _ HLK.out
              subst hu
              have HR0 : Hid (hasK L k = true) := Lib.hid (by unfold hasK; rw [hl]; rfl)
              have hr0 : hasKV L k = .bool true := by unfold hasKV; rw [HR0.out]
              rw [hr0] at c5
              have hl2 := Lib.hid hl
              have hst := strOf_toList vv
              have HCV : Hid (∀ V, Mods Nil wr V → (convert 28 9 (.slice B q cb)).run Try.prog V = .ok (.string (strOf vv)) V) := Lib.hid (fun V hV => conv14 HQ.out (HBY.out.mods ((HMW.out.trans M5.out).trans hV) (fun _ _ h => h)))
              clear hr0 hl
              by_cases hXk : X = k
              · have hXkI : ((X : Int) == (k : Int)) = true := by rw [hXk]; simp
                have HXK := Lib.hid hXk
                clear hXk
                go_wp2_with (go_at_call 18; refine (S5.out.get (s := k) (by omega) (by omega)).mono ?_; rintro e w6 ⟨A6, n6, c6, he6, h6, m6⟩; rw [hl2.out] at he6; simp only [Option.isSome_some] at he6; subst he6; obtain ⟨h61, h62⟩ := h6 vv hl2.out; have M6 := Lib.hid m6; have c6x := (R5.out.mods m6 (fun h => h)).rowcell hlt2; rw [show hasKV L k = .bool true from (by unfold hasKV; rw [HR0.out])] at c6x; have e6 := (World.cell?_of_block (m6.block b2 HB2.out (fun h => h))).trans E1.out; have hcv1 : ∀ j, (convert 28 9 (.slice A6 n6 c6)).run Try.prog (w6.drewN j) = .ok (.string (strOf vv)) (w6.drewN j) := (fun j => conv14 h61 (h62.drewN j)); have hcv2 : ∀ j, (convert 28 9 (.slice B q cb)).run Try.prog (w6.drewN j) = .ok (.string (strOf vv)) (w6.drewN j) := (fun j => HCV.out _ (m6.drewN j)); clear h6 m6 h61 h62)
                go_quiet (fail)
                go_wp2
                exact ⟨⟨k + 1, by omega, by go_num, by unfold tpK; rw [HR0.out]; go_num, by unfold nxK; rw [HR0.out, HX.out, if_pos ⟨rfl, HXK.out⟩]; go_num, M5.out.trans (M6.out.drewN _)⟩, by simp [intOf]; omega⟩
              · have hXkI : ((X : Int) == (k : Int)) = false := by rw [beq_eq_false_iff_ne]; omega
                have HXK := Lib.hid hXk
                clear hXk
                go_wp2_with (go_at_call 18; refine (S5.out.get (s := k) (by omega) (by omega)).mono ?_; rintro e w6 ⟨A6, n6, c6, he6, h6, m6⟩; rw [hl2.out] at he6; simp only [Option.isSome_some] at he6; subst he6; obtain ⟨h61, h62⟩ := h6 vv hl2.out; have M6 := Lib.hid m6; have c6x := (R5.out.mods m6 (fun h => h)).rowcell hlt2; rw [show hasKV L k = .bool true from (by unfold hasKV; rw [HR0.out])] at c6x; have e6 := (World.cell?_of_block (m6.block b2 HB2.out (fun h => h))).trans E1.out; have hcv1 : ∀ j, (convert 28 9 (.slice A6 n6 c6)).run Try.prog (w6.drewN j) = .ok (.string (strOf vv)) (w6.drewN j) := (fun j => conv14 h61 (h62.drewN j)); have hcv2 : ∀ j, (convert 28 9 (.slice B q cb)).run Try.prog (w6.drewN j) = .ok (.string (strOf vv)) (w6.drewN j) := (fun j => HCV.out _ (m6.drewN j)); clear h6 m6 h61 h62)
                go_quiet (fail)
                go_wp2
                exact ⟨⟨k + 1, by omega, by go_num, by unfold tpK; rw [HR0.out]; go_num, by unfold nxK; rw [HR0.out, HX.out, if_neg (fun h => HXK.out h.2)], M5.out.trans (M6.out.drewN _)⟩, by simp [intOf]; omega⟩
          · obtain rfl : k = N := by omega
            obtain ⟨T, hT⟩ : ∃ T, tpK L k = T := ⟨_, rfl⟩
            obtain ⟨X, hX⟩ : ∃ X, nxK L k = X := ⟨_, rfl⟩
            have HT := Lib.hid hT
            have HX := Lib.hid hX
            have hTk : T ≤ k := by rw [← hT]; exact tpK_le L k
            have hXk : X ≤ k := by rw [← hX]; exact (nxK_spec L k).1
            rw [hT, hX]
            clear hT hX
            go_wp2
            go_loopw [14, 18] (fun x y wr'' => ∃ j : Nat, j ≤ T ∧ y = .int .i64 (j : Int) ∧ x = .int .i64 (gpK L j : Int) ∧ wr'' = wr) (fun _ y _ => T - (intOf y).toNat)
            case atStart => exact ⟨0, Nat.zero_le _, rfl, rfl, rfl⟩
            case round =>
              obtain ⟨j, hjT, rfl, rfl, rfl⟩ := hrel
              by_cases hlt3 : j < T
              · have hjI : (j : Int) < (T : Int) := by omega
                have hjkI : (j : Int) < (k : Int) := by omega
                have c7 := R5.out.rowcell (k := j) (by omega)
                obtain ⟨P, hP⟩ : ∃ P, gpK L j = P := ⟨_, rfl⟩
                have hPj : P ≤ j := by rw [← hP]; exact gpK_le L j
                have HPP := Lib.hid hP
                rw [hP]
                clear hP
                cases hb : hasK L j with
                | true =>
                  have hr0 : hasKV L j = .bool true := by unfold hasKV; rw [hb]
                  rw [hr0] at c7
                  have HB := Lib.hid hb
                  clear hr0 hb
                  go_wp2
                  exact ⟨⟨j + 1, by omega, by go_num, by unfold gpK; rw [HB.out, HPP.out]; rfl, trivial⟩, by simp [intOf]; omega⟩
                | false =>
                  have hr0 : hasKV L j = .bool false := by unfold hasKV; rw [hb]
                  rw [hr0] at c7
                  have HB := Lib.hid hb
                  clear hr0 hb
                  go_wp2
                  exact ⟨⟨j + 1, by omega, by go_num, by unfold gpK; rw [HB.out, HPP.out]; go_num, trivial⟩, by simp [intOf]; omega⟩
              · obtain rfl : T = j := by omega
                obtain ⟨P, hP⟩ : ∃ P, gpK L T = P := ⟨_, rfl⟩
                have hPj : P ≤ T := by rw [← hP]; exact gpK_le L T
                have HTOP : Hid (topL L = T) := Lib.hid (by rw [← tpK_top HP.out.lt, HT.out])
                have HNXT : Hid (nextP L X) := Lib.hid (by rw [← HX.out]; exact nxK_next HP.out.lt)
                have HGAP : Hid ((gapsL L 1000).length = P) := Lib.hid (by rw [gapsL_len HP.out.lt (by omega), HT.out, hP])
                have HFR : Hid ((fromL L 0 1000).length = X) := Lib.hid (by rw [from_len HNXT.out 1000 0 (by omega) (by omega)]; omega)
                have hwT : IntKind.u64.wrap (T : Int) = (T : Int) := by rw [IntKind.wrap_u64]; omega
                have hwX : IntKind.u64.wrap (X : Int) = (X : Int) := by rw [IntKind.wrap_u64]; omega
                rw [hP]
                clear hP
                go_wp2_with (first
                  | (go_at_call 20; refine (S9.out.from_ (s := 0) (most := 1000) (by omega) (by omega) (by omega) (by omega)).mono ?_; rintro e w10 ⟨A10, c10, n10, R10, rfl, f10, m10⟩; have M10 := Lib.hid (S9.out.nil m10); obtain rfl : X = n10 := (by rw [← f10.len]; have h := congrArg List.length f10.val; rw [List.length_map] at h; rw [h]; exact HFR.out.symm); clear f10 m10)
                  | (go_at_call 16; refine (S8.out.gaps (most := 1000) (by omega) (by omega) (by omega)).mono ?_; rintro e w9 ⟨A9, c9, n9, rfl, l9, s9, _, m9⟩; obtain rfl : P = n9 := (by rw [← l9]; exact HGAP.out.symm); have S9 := Lib.hid (S8.out.nil m9); clear l9 s9 m9)
                  | (go_at_call 11; refine (S7.out.next (by omega)).mono ?_; rintro e w8 ⟨r8, rfl, n8, _, m8⟩; obtain rfl : X = r8 := (nextP_one n8 HNXT.out).symm; have S8 := Lib.hid (S7.out.nil m8); clear m8 n8)
                  | (go_at_call 13; refine (S5.out.top_ (by omega)).mono ?_; rintro e w7 ⟨he7, m7⟩; rw [HTOP.out] at he7; subst he7; have S7 := Lib.hid (S5.out.nil m7); clear m7))
                go_ret
                exact ⟨rfl, M1.out.trans M10.out.m⟩
end Go.Proofs.Ytbpflkjodiaokaa
