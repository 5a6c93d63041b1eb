/- LearnerPlays: step by step as the document's. -/
import Derived.Test.YtbpflkjodiaokaaHelp14
import Derived.Test.YtbpflkjodiaokaaRef09a
import Derived.Test.YtbpflkjodiaokaaInRows
import Derived.Test.YtbpflkjodiaokaaQT
import Derived.Deep.QuietTactic
import Derived.BigQuiet
namespace Go.Proofs.Ytbpflkjodiaokaa
set_option maxRecDepth 1000000
open Go.RowKit
set_option linter.unusedVariables false
set_option linter.unusedSimpArgs false

theorem from_get (L : List KV) : ∀ m s j, j < m → (∀ t, t < j → (lookL L (s + t)).isSome = true) → (fromL L s m)[j]? = lookL L (s + j)
  | 0, s, j, h, _ => by omega
  | m + 1, s, j, h, hp => by
    unfold fromL
    cases hl : lookL L s with
    | none =>
      cases j with
      | zero => simp [hl]
      | succ j => have := hp 0 (by omega); rw [Nat.add_zero, hl] at this; cases this
    | some v =>
      cases j with
      | zero => simp [hl]
      | succ j =>
        simp only [List.getElem?_cons_succ]
        rw [from_get L m (s + 1) j (by omega) (fun t ht => by have := hp (t + 1) (by omega); rwa [show s + 1 + t = s + (t + 1) by omega])]
        congr 1
        omega
theorem from_stop {L : List KV} {m s j : Nat} (hj : j < m) (hp : ∀ t, t < j → (lookL L (s + t)).isSome = true) (hn : lookL L (s + j) = none) : (fromL L s m).length = j := by
  have h1 := from_get L m s j hj hp
  rw [hn] at h1
  have h2 := List.getElem?_eq_none_iff.1 h1
  cases j with
  | zero => omega
  | succ j =>
    have h3 := from_get L m s j (by omega) (fun t ht => hp t (by omega))
    obtain ⟨v, hv⟩ := Option.isSome_iff_exists.1 (hp j (by omega))
    rw [hv] at h3
    have := (List.getElem?_eq_some_iff.1 h3).1
    omega
theorem FromR.nil14 {w w' : World} {A : Option Addr} {c n : Nat} {R : List (Option Addr × Nat × List UInt8)} {l : List (List UInt8)} (h : FromR w A c n R l) (hm : Mods Nil w w') : FromR w' A c n R l := ⟨h.len, h.val, h.sl.mods hm (fun _ _ h => h), fun r hr => (h.bys r hr).mods hm (fun _ _ h => h)⟩
theorem i64_of_wf14 {a : Int} (w : (Lit.int .i64 a).wf = true) : -9223372036854775808 ≤ a ∧ a < 9223372036854775808 := by
  have h1 : IntKind.i64.min = -9223372036854775808 := rfl
  have h2 : IntKind.i64.max = 9223372036854775807 := rfl
  simp only [Lit.wf, h1, h2, Bool.and_eq_true, decide_eq_true_eq] at w
  omega
theorem learnL_len (L : List KV) (s : Nat) (v : List UInt8) : (learnL L s v).length ≤ L.length + 1 := by
  unfold learnL
  split
  · omega
  · split
    · simp
    · omega

set_option maxHeartbeats 12800000 in
theorem learnerPlays_walk (w : World) {A : Option Addr} {c n : Nat} {xs : List Nat} (hn : xs.length = n) (hs : Sl w A c (nums xs)) (hx : ∀ x ∈ xs, x < 18446744073709551616) {A1 : Option Addr} {c1 n1 : Nat} {l : List Row} (hn1 : l.length = n1) (hs1 : Sl w A1 c1 (l.map Row.val)) (hr1 : ∀ r ∈ l, r.ok w) {most : Int} (wm : (Lit.int .i64 most).wf = true) :
    Calls Try.prog 3 #[.slice A n c, .slice A1 n1 c1, .int .i64 most] w fun e w' => e = .returned (.bool true) ∧ Mods Nil w w' := by
  have hm0 := i64_of_wf14 wm
  have HN := Lib.hid hn
  have HS := Lib.hid hs
  have HXS := Lib.hid hx
  have HN1 := Lib.hid hn1
  have HS1 := Lib.hid hs1
  have HR1 := Lib.hid hr1
  have HM0 := Lib.hid hm0
  clear hn hs hx hn1 hs1 hr1 wm hm0
  by_cases hin : 40 < n ∨ n1 < n ∨ 60 < most
  · by_cases h1 : 40 < n
    · have g1 : decide ((40 : Int) < (n : Int)) = true := by simp; omega
      have g1N : decide (40 < n) = true := by simp; omega
      clear hin
      go_enter Try.func3, Try.ntmps3
      go_wp2_with (go_at_call 7; refine (awake14_any _).mono ?_; rintro e w1 ⟨rfl, m1⟩; have M1 := Lib.hid m1; clear m1)
      go_ret
      exact ⟨rfl, M1.out⟩
    have g1 : decide ((40 : Int) < (n : Int)) = false := by simp; omega
    have g1N : decide (40 < n) = false := by simp; omega
    by_cases h2 : n1 < n
    · have g2 : decide ((n1 : Int) < (n : Int)) = true := by simp; omega
      have g2N : decide (n1 < n) = true := by simp; omega
      clear hin
      go_enter Try.func3, Try.ntmps3
      go_wp2_with (go_at_call 7; refine (awake14_any _).mono ?_; rintro e w1 ⟨rfl, m1⟩; have M1 := Lib.hid m1; clear m1)
      go_ret
      exact ⟨rfl, M1.out⟩
    have g2 : decide ((n1 : Int) < (n : Int)) = false := by simp; omega
    have g2N : decide (n1 < n) = false := by simp; omega
    have g3 : decide ((60 : Int) < most) = true := by simp; omega
    clear hin
    go_enter Try.func3, Try.ntmps3
    go_wp2_with (go_at_call 7; refine (awake14_any _).mono ?_; rintro e w1 ⟨rfl, m1⟩; have M1 := Lib.hid m1; clear m1)
    go_ret
    exact ⟨rfl, M1.out⟩
  have hn40 : n ≤ 40 := by omega
  have hnn1 : n ≤ n1 := by omega
  have HM60 : Hid (most ≤ 60) := Lib.hid (by omega)
  have g1 : decide ((40 : Int) < (n : Int)) = false := by simp; omega
  have g1N : decide (40 < n) = false := by simp; omega
  have g2 : decide ((n1 : Int) < (n : Int)) = false := by simp; omega
  have g2N : decide (n1 < n) = false := by simp; omega
  have g3 : decide ((60 : Int) < most) = false := by simp; omega
  clear hin
  go_enter Try.func3, Try.ntmps3
  go_wp2_with (first
    | (go_at_call 7; refine (awake14_any _).mono ?_; rintro e w1 ⟨rfl, m1⟩; have M1 := Lib.hid m1; clear m1)
    | (go_at_call 8; refine (lrn_new _).mono ?_; rintro e w2 ⟨b0, rfl, s2⟩; have S2 := Lib.hid s2; clear s2))
  obtain ⟨W0, hW0⟩ : ∃ W0, w1 = W0 := ⟨_, rfl⟩
  rw [hW0] at M1 S2
  have HCV : Hid (∀ B cb q (vv : List UInt8), vv.length = q → Sl w B cb (bts vv) → ∀ V, Mods Nil W0 V → (convert 28 9 (.slice B q cb)).run Try.prog V = .ok (.string (strOf vv)) V) := Lib.hid (fun B cb q vv hq hb V hV => conv14 hq (hb.mods (M1.out.trans hV) (fun _ _ h => h)))
  go_loopw [9, 10] (fun x y wr => ∃ (i : Nat) (L : List KV) (A' : Option Addr) (c' n' : Nat) (X : Nat → Prop), i ≤ n ∧ y = .int .i64 (i : Int) ∧ x = .slice A' n' c' ∧ L.length ≤ i ∧ RKs wr A' c' n' L ∧ (∀ a, A' = some a → X a.block) ∧ LrS W0 wr X b0 L i) (fun _ y _ => n - (intOf y).toNat)
  case atStart => exact ⟨0, [], none, 0, 0, fun _ => False, Nat.zero_le _, rfl, rfl, Nat.le_refl _, RKs.none_ _, (fun a h => by cases h), S2.out⟩
  case round =>
    obtain ⟨i, L, A3, c3, n3, X, hi, rfl, rfl, hll, hrk, hxa, hsa⟩ := hrel
    have HLL := Lib.hid hll
    have HRK := Lib.hid hrk
    have HXA := Lib.hid hxa
    have HSA := Lib.hid hsa
    clear hll hrk hxa hsa S2
    by_cases hlt : i < n
    · have hltI : (i : Int) < (n : Int) := by omega
      have hltI1 : (i : Int) < (n1 : Int) := by omega
      have hmw := M1.out
      obtain ⟨b1, o1, rfl, hb1, hcs1⟩ := (HS.out.mods hmw (fun _ _ h => h)).at_ (by simp [nums]; rw [HN.out]; omega)
      have e0 := hcs1 i _ (by simp only [nums]; rw [List.getElem?_map, List.getElem?_eq_getElem (by rw [HN.out]; exact hlt)]; rfl)
      obtain ⟨s, hs⟩ : ∃ s, xs[i]'(by rw [HN.out]; exact hlt) = s := ⟨_, rfl⟩
      have hs64 : s < 18446744073709551616 := by rw [← hs]; exact HXS.out _ (List.getElem_mem _)
      rw [hs] at e0
      clear hs hcs1
      have hkl : i < l.length := by rw [HN1.out]; omega
      obtain ⟨b2, o2, rfl, hb2, hcs⟩ := (HS1.out.mods hmw (fun _ _ h => h)).at_ (by simp; omega)
      have e1 := hcs i _ (by rw [List.getElem?_map, List.getElem?_eq_getElem hkl]; rfl)
      have hrow := HR1.out _ (List.getElem_mem hkl)
      generalize l[i] = r at e1 hrow
      obtain ⟨B, cb, vv⟩ := r
      simp only [Row.val] at e1
      have hby : Sl w B cb (bts vv) := hrow
      obtain ⟨q, hq⟩ : ∃ q, vv.length = q := ⟨_, rfl⟩
      rw [hq] at e1
      have HQ := Lib.hid hq
      have HBY := Lib.hid hby
      have HCELL : Hid (∀ V, Mods Nil W0 V → (V.cell? ⟨b1, o1 + i, none⟩ = some (.int .u64 (s : Int)) ∧ V.cell? ⟨b2, o2 + i, none⟩ = some (.slice B q cb))) := Lib.hid (fun V hV => ⟨(World.cell?_of_block (hV.block b1 hb1 (fun h => h))).trans e0, (World.cell?_of_block (hV.block b2 hb2 (fun h => h))).trans e1⟩)
      clear e0 e1
      obtain ⟨e0, e1⟩ := HCELL.out _ HSA.out.m
      clear hkl hcs hrow hby hq hmw hb1 hb2
      by_cases h40 : 40 < q
      · have k1 : decide ((40 : Int) < (q : Int)) = true := by simp; omega
        have k1N : decide (40 < q) = true := by simp; omega
        go_wp2
        go_ret
        exact ⟨rfl, M1.out.trans HSA.out.m⟩
      have k1 : decide ((40 : Int) < (q : Int)) = false := by simp; omega
      have k1N : decide (40 < q) = false := by simp; omega
      by_cases h200 : 200 < s ∧ s < 18446744073709551615
      · have k2 : decide ((200 : Int) < (s : Int)) = true := by simp; omega
        have k2N : (200 : Int) < (s : Int) := by omega
        have k3 : decide ((s : Int) < 18446744073709551615) = true := by simp; omega
        have k3N : (s : Int) < 18446744073709551615 := by omega
        clear h200
        go_wp2
        go_ret
        exact ⟨rfl, M1.out.trans HSA.out.m⟩
      obtain ⟨E, hE⟩ : ∃ E, learnE L s vv = E := ⟨_, rfl⟩
      obtain ⟨L', hL'⟩ : ∃ L', learnL L s vv = L' := ⟨_, rfl⟩
      have HLEARN : Hid (∀ V, Mods Nil wr V → Calls Try.prog 9 #[.pointer (some ⟨b0, 0, none⟩), .int .u64 (s : Int), .slice B q cb] V fun e W' => e = .returned (.int .i64 (E : Int)) ∧ LrS W0 W' X b0 L' (i + 1) ∧ Mods (LM W0 X) V W') := Lib.hid (fun V hV => by
        have h := (HSA.out.nil hV).learn (by omega) (s := s) hs64 (v := vv) (n := q) (c := cb) (A := B) HQ.out (by omega) (HBY.out.mods ((M1.out.trans HSA.out.m).trans hV) (fun _ _ h => h))
        rw [hE, hL'] at h
        exact h)
      have hn3 : n3 ≤ 41 := by have := HRK.out.len; have := HLL.out; omega
      have HREF : Hid (∀ V, RKs V A3 c3 n3 L → Calls Try.prog 10 #[.slice A3 n3 c3, .int .u64 (s : Int), .string (strOf vv)] V fun e W' => ∃ A c n, e = .returned (.tuple #[.slice A n c, .int .i64 (E : Int)]) ∧ RKs W' A c n L' ∧ (∀ a, A = some a → A3 = some a ∨ (V.heap.size ≤ a.block ∧ a.block < W'.heap.size)) ∧ Mods Nil V W') := Lib.hid (fun V hV => by
        have h := r14learn_any V hV (by omega) hs64 vv
        unfold RLearnT at h
        rw [hE, hL'] at h
        exact h)
      have HLL' : Hid (L'.length ≤ i + 1) := Lib.hid (by rw [← hL']; have := learnL_len L s vv; have := HLL.out; omega)
      obtain ⟨T, hT⟩ : ∃ T, topL L' = T := ⟨_, rfl⟩
      have HT := Lib.hid hT
      obtain ⟨GL, hGL⟩ : ∃ GL, gapsL L' most.toNat = GL := ⟨_, rfl⟩
      have HGL := Lib.hid hGL
      have hEE : ((E : Int) != (E : Int)) = false := by simp
      clear hE hL' hT hGL
      have h200' : s ≤ 200 ∨ s = 18446744073709551615 := by omega
      have k2 : (decide ((200 : Int) < (s : Int)) = false ∧ ¬ (200 : Int) < (s : Int)) ∨ (decide ((s : Int) < 18446744073709551615) = false ∧ ¬ (s : Int) < 18446744073709551615 ∧ (200 : Int) < (s : Int) ∧ decide ((200 : Int) < (s : Int)) = true) := by
        rcases h200' with h | h
        · exact .inl ⟨by simp; omega, by omega⟩
        · exact .inr ⟨by simp; omega, by omega, by omega, by simp; omega⟩
      have HGN := Lib.hid hn3
      clear h200 h200' h40 hn3
      rcases k2 with ⟨k2, k3⟩ | ⟨k2, k3, k4, k5⟩
      all_goals
        go_wp2_with fail
        refine qt_region 11 (by kernel_rfl) rfl ?_
        refine qt_quiet (fun V => Mods Nil wr V) 0 9 2 (by kernel_rfl) ((Mods.refl Nil wr).drew) ?_
        simp only [List.drop_succ_cons, List.drop_zero, List.take_succ_cons, List.take_zero]
        repeat (first
          | go_big_quiet_skip
          | (go_big_quiet_want; first
              | (refine gq_op (v := ?_) ?_ ?_; rotate_left; (focus (intro V hV; have k0 := (HCELL.out V (HSA.out.m.trans hV)).1; have k1 := (HCELL.out V (HSA.out.m.trans hV)).2; go_simp; try with_reducible rfl)); go_big_quiet_on))
            simp only [Act.put, List.setIfInBounds_toArray, List.set_cons_zero, List.set_cons_succ])
        refine wpQuiet_nil ?_
        intro V hV
        have HVV := Lib.hid hV
        refine qt_list 9 2 rfl (by kernel_rfl) ?_
        simp only [List.drop_succ_cons, List.drop_zero]
        clear hV e0 e1
        go_wp2_with (go_at_call 9; go_loud (refine (HLEARN.out _ HVV.out).mono ?_); rintro e w4 ⟨rfl, s4, m4⟩; have S4 := Lib.hid s4; have R4 : Hid (RKs w4 A3 c3 n3 L) := Lib.hid ⟨HRK.out.len, (HRK.out.nil HVV.out).sl.mods m4 (fun a ha hd => hd.2 (HXA.out a ha)), HRK.out.ok⟩; obtain ⟨e0, e1⟩ := HCELL.out _ s4.m; have hcv4 : ∀ j, (convert 28 9 (.slice B q cb)).run Try.prog (w4.drewN j) = .ok (.string (strOf vv)) (w4.drewN j) := (fun j => HCV.out _ _ _ _ HQ.out HBY.out _ (s4.m.drewN j)); clear s4 m4)
        refine qt_region 16 (by kernel_rfl) rfl ?_
        refine qt_quiet (fun V => Mods Nil w4 V) 0 10 6 (by kernel_rfl) ((Mods.refl Nil w4).drew) ?_
        simp only [List.drop_succ_cons, List.drop_zero, List.take_succ_cons, List.take_zero]
        repeat (first
          | go_big_quiet_skip
          | (go_big_quiet_want; first
              | (refine gq_op (v := ?_) ?_ ?_; rotate_left; (focus (intro V hV; have k0 := (HCELL.out V (S4.out.m.trans hV)).1; have k1 := (HCELL.out V (S4.out.m.trans hV)).2; have kcv := HCV.out _ _ _ _ HQ.out HBY.out V (S4.out.m.trans hV); go_simp; try with_reducible rfl)); go_big_quiet_on))
            simp only [Act.put, List.setIfInBounds_toArray, List.set_cons_zero, List.set_cons_succ])
        refine wpQuiet_nil ?_
        intro V5 hV5
        refine qt_call 10 5 (by kernel_rfl) _ rfl rfl _ _ ?_ ((HREF.out V5 (R4.out.nil hV5)).mono ?_)
        · go_simp
        rintro e w5 ⟨A5, c5, n5, rfl, r5, a5, m5⟩
        obtain ⟨X5, hX5⟩ : ∃ X5 : Nat → Prop, (fun k => X k ∨ ∃ a, A5 = some a ∧ a.block = k) = X5 := ⟨_, rfl⟩
        have XA5 : Hid (∀ a, A5 = some a → X5 a.block) := Lib.hid (fun a ha => by rw [← hX5]; exact .inr ⟨a, ha, rfl⟩)
        have S5 := Lib.hid ((S4.out.nil hV5).more m5 (Y := X5) (fun k hk => by
          rw [← hX5] at hk
          rcases hk with hk | ⟨a, ha, rfl⟩
          · exact .inl hk
          · rcases a5 a ha with h | h
            · exact .inl (HXA.out a h)
            · exact .inr h))
        have R5 := Lib.hid r5
        have HN5 : Hid (n5 ≤ 41) := Lib.hid (by have := r5.len; have := HLL'.out; omega)
        clear r5 a5 m5 hX5 S4 R4 hV5 hcv4 e0 e1
        refine ⟨_, rfl, ?_⟩
        simp only [List.getElem_toArray, List.getElem_cons_succ, List.getElem_cons_zero, Act.put, List.setIfInBounds_toArray, List.set_cons_zero, List.set_cons_succ]
        refine qt_take 11 4 rfl (by kernel_rfl) (by kernel_rfl) (by kernel_rfl) (fun _ _ _ h => h) (by rfl) (v := ?_) ?_ ?_
        rotate_left
        · intro V
          go_simp
          try with_reducible rfl
        simp only [List.getElem_toArray, List.getElem_cons_succ, List.getElem_cons_zero, Act.put, List.setIfInBounds_toArray, List.set_cons_zero, List.set_cons_succ]
        refine qt_take 12 3 rfl (by kernel_rfl) (by kernel_rfl) (by kernel_rfl) (fun _ _ _ h => h) (by rfl) (v := ?_) ?_ ?_
        rotate_left
        · intro V
          go_simp
          try with_reducible rfl
        simp only [List.getElem_toArray, List.getElem_cons_succ, List.getElem_cons_zero, Act.put, List.setIfInBounds_toArray, List.set_cons_zero, List.set_cons_succ]
        refine qt_take 13 2 rfl (by kernel_rfl) (by kernel_rfl) (by kernel_rfl) (fun _ _ _ h => h) (by rfl) (v := ?_) ?_ ?_
        rotate_left
        · intro V
          go_simp
          try with_reducible rfl
        simp only [List.getElem_toArray, List.getElem_cons_succ, List.getElem_cons_zero, Act.put, List.setIfInBounds_toArray, List.set_cons_zero, List.set_cons_succ]
        refine qt_list 14 2 rfl (by kernel_rfl) ?_
        simp only [List.drop_succ_cons, List.drop_zero]
        go_wp2_with (first
          | (go_at_call 15; have hx := Z9.out; clear hx; refine (r9same_any _ Z8.out.1 (by have := Z8.out.2.2; omega) Z8.out.2.1 Z9.out.1 Z9.out.2).mono ?_; rintro e w10 ⟨he10, m10⟩; rw [decide_eq_true rfl] at he10; subst he10; have S10 := Lib.hid (S9.out.nil m10); have R10 := Lib.hid (R9.out.nil m10); clear m10)
          | (go_at_call 17; have hx := R8.out; clear hx; refine (r14gaps_any _ R8.out (by have := HN5.out; omega) (by have := HM60.out; omega)).mono ?_; rintro e w9 ⟨A9, c9, n9, rfl, l9, s9, m9⟩; rw [HGL.out] at l9 s9; have Z9 := Lib.hid (And.intro l9 s9); have Z8 := Lib.hid (show GL.length = n8 ∧ Sl w9 A8 c8 (nums GL) ∧ n8 ≤ 1000 from ⟨Z8.out.1, Z8.out.2.1.mods m9 (fun _ _ h => h), Z8.out.2.2⟩); have S9 := Lib.hid (S8.out.nil m9); have R9 := Lib.hid (R8.out.nil m9); clear l9 s9 m9 R8 S8)
          | (go_at_call 16; have hx := S7.out; clear hx; refine (S7.out.gaps (most := most) (by omega) (by have := HM60.out; omega) HM0.out.1).mono ?_; rintro e w8 ⟨A8, c8, n8, rfl, l8, s8, _, m8⟩; rw [HGL.out] at l8 s8; have Z8 := Lib.hid (show GL.length = n8 ∧ Sl w8 A8 c8 (nums GL) ∧ n8 ≤ 1000 from ⟨l8, s8, by rw [← l8, ← HGL.out]; have := HM60.out; unfold gapsL; rw [List.length_take]; omega⟩); have S8 := Lib.hid (S7.out.nil m8); have R8 := Lib.hid (R7.out.nil m8); clear l8 s8 m8 S7 R7)
          | (go_at_call 14; have hx := R7.out; clear hx; refine (r14top_any _ R7.out (by have := HN5.out; omega)).mono ?_; rintro e w7b ⟨he7, rfl⟩; rw [HT.out] at he7; subst he7)
          | (go_at_call 13; have hx := S6.out; clear hx; refine (S6.out.top_ (by omega)).mono ?_; rintro e w7 ⟨he7, m7⟩; rw [HT.out] at he7; subst he7; have S7 := Lib.hid (S6.out.nil m7); have R7 := Lib.hid (R6.out.nil m7); clear m7 S6 R6)
          | (go_at_call 12; have hx := R6.out; clear hx; refine (r14next_any _ R6.out (by have := HN5.out; omega)).mono ?_; rintro e w6b ⟨⟨r7, rfl, n7, _⟩, rfl⟩; obtain rfl : r6 = r7 := nextP_one N6.out n7; clear n7)
          | (go_at_call 11; have hx := S5.out; clear hx; refine (S5.out.next (by omega)).mono ?_; rintro e w6 ⟨r6, rfl, n6, _, m6⟩; have N6 := Lib.hid n6; have S6 := Lib.hid (S5.out.nil m6); have R6 := Lib.hid (R5.out.nil m6); clear m6 n6 S5 R5))
        have HLOOK : Hid (∀ (k : Nat) V, Mods Nil w10 V → Calls Try.prog 19 #[.slice A5 n5 c5, .int .u64 (k : Int)] V fun e w' => (∃ r, e = .returned (.int .i64 r) ∧ FindP L' k r) ∧ V = w') := Lib.hid (fun k V hV => r14find_any V (R10.out.nil hV) (by have := HN5.out; omega) k)
        go_loopw [14] (fun y wr' => ∃ k : Nat, k ≤ 12 ∧ y = .int .u64 (k : Int) ∧ Mods Nil w10 wr') (fun y _ => 12 - (intOf y).toNat)
        case atStart => exact ⟨0, Nat.zero_le _, rfl, Mods.refl _ _⟩
        case round =>
          obtain ⟨k, hk, rfl, hm11⟩ := hrel
          have S11 := Lib.hid (S10.out.nil hm11)
          have R11 := Lib.hid (R10.out.nil hm11)
          have M11 := Lib.hid hm11
          clear hm11
          by_cases hk12 : k < 12
          · have hk12I : (k : Int) < 12 := by omega
            have hwk1 : IntKind.u64.wrap ((k : Int) + 1) = (k : Int) + 1 := by rw [IntKind.wrap_u64]; omega
            cases hl : lookL L' k with
            | none =>
              have HLK := Lib.hid hl
              clear hl
              go_wp2_with (first
                | (go_at_call 19; have hx := S12.out; clear hx; refine (HLOOK.out k _ M12.out).mono ?_; rintro e w12b ⟨⟨r, rfl, hr⟩, rfl⟩; obtain rfl : r = -1 := (by rcases hr with ⟨h1, _⟩ | ⟨i, v, _, _, _, h4⟩; exact h1; rw [HLK.out] at h4; cases h4); clear hr)
                | (go_at_call 18; have hx := S11.out; clear hx; refine (S11.out.get (s := k) (by omega) (by omega)).mono ?_; rintro e w12 ⟨A12, n12, c12, he12, h12, m12⟩; rw [HLK.out] at he12; simp only [Option.isSome_none] at he12; subst he12; have S12 := Lib.hid (S11.out.nil m12); have M12 := Lib.hid (M11.out.trans m12); clear h12 m12 S11))
              go_quiet (fail)
              go_wp2_with (go_at_call 20; refine ((S12.out.nil ((Mods.refl Nil _).drewN _)).from_ (s := k) (most := 5) (by omega) (by omega) (by omega) (by omega)).mono ?_; rintro e w13 ⟨A13, c13, n13, R13, rfl, f13, m13⟩; have F13 : Hid (FromR w13 A13 c13 n13 R13 (fromL L' k 5)) := Lib.hid f13; have M13 := Lib.hid ((M12.out.drewN _).trans m13); clear f13 m13 S12)
              go_loopw [19] (fun y wr'' => ∃ j : Nat, j ≤ 5 ∧ y = .int .i64 (j : Int) ∧ (∀ t, t < j → (lookL L' (k + t)).isSome = true) ∧ Mods Nil w13 wr'') (fun y _ => 5 - (intOf y).toNat)
              case atStart => exact ⟨0, Nat.zero_le _, rfl, (fun t h => by omega), Mods.refl _ _⟩
              case round =>
                obtain ⟨j, hj, rfl, hp, hm14⟩ := hrel
                have HPJ := Lib.hid hp
                have M14 := Lib.hid (M13.out.trans hm14)
                have M15 := Lib.hid hm14
                have F14 := Lib.hid (F13.out.nil14 hm14)
                clear hp hm14
                by_cases hj5 : j < 5
                · have hj5I : (j : Int) < 5 := by omega
                  have hwj : IntKind.u64.wrap (j : Int) = (j : Int) := by rw [IntKind.wrap_u64]; omega
                  obtain ⟨kj, hkj⟩ : ∃ kj, k + j = kj := ⟨_, rfl⟩
                  have hkjI : (k : Int) + (j : Int) = (kj : Int) := by omega
                  have hwkj : IntKind.u64.wrap (kj : Int) = (kj : Int) := by rw [IntKind.wrap_u64]; omega
                  cases hl2 : lookL L' kj with
                  | none =>
                    have HL2 := Lib.hid hl2
                    have hnj : n13 = j := by
                      have h1 := F14.out.len
                      have h2 := congrArg List.length F14.out.val
                      rw [List.length_map, from_stop hj5 HPJ.out (by rw [hkj]; exact hl2)] at h2
                      omega
                    have hnjI : ((n13 : Int) != (j : Int)) = false := by rw [hnj]; simp
                    clear hl2 hkj hnj
                    go_wp2_with (go_at_call 19; refine (HLOOK.out kj _ M14.out).mono ?_; rintro e w14b ⟨⟨r, rfl, hr⟩, rfl⟩; obtain rfl : r = -1 := (by rcases hr with ⟨h1, _⟩ | ⟨i, v, _, _, _, h4⟩; exact h1; rw [HL2.out] at h4; cases h4); clear hr)
                    exact ⟨⟨k + 1, by omega, by go_num, M14.out⟩, by simp [intOf]; omega⟩
                  | some v2 =>
                    have HL2 := Lib.hid hl2
                    have hst2 := strOf_toList v2
                    have hget := from_get L' 5 k j hj5 HPJ.out
                    rw [hkj, hl2, ← F14.out.val, List.getElem?_map] at hget
                    obtain ⟨rr, hr1, hr2⟩ := Option.map_eq_some_iff.1 hget
                    have hjn : j < n13 := by rw [← F14.out.len]; exact (List.getElem?_eq_some_iff.1 hr1).1
                    obtain ⟨b8, o8, hA8, hb8, hcs8⟩ := F14.out.sl.at_ (by rw [List.length_map, F14.out.len]; omega)
                    have e8 := hcs8 j _ (by rw [List.getElem?_map, hr1]; rfl)
                    have hby8 := F14.out.bys rr (List.mem_of_getElem? hr1)
                    cases hA8
                    obtain ⟨B8, cb8, v8⟩ := rr
                    simp only at hr2 e8 hby8
                    subst hr2
                    obtain ⟨q8, hq8⟩ : ∃ q8, v8.length = q8 := ⟨_, rfl⟩
                    rw [hq8] at e8
                    have hcv8 : ∀ j', (convert 28 9 (.slice B8 q8 cb8)).run Try.prog (wr.drewN j') = .ok (.string (strOf v8)) (wr.drewN j') := fun j' => conv14 hq8 (hby8.drewN j')
                    have hjnI : decide ((n13 : Int) ≤ (j : Int)) = false := by simp; omega
                    have hjnN : decide (n13 ≤ j) = false := by simp; omega
                    have hjnL : (j : Int) < (n13 : Int) := by omega
                    have HPJ2 : Hid (∀ t, t < j + 1 → (lookL L' (k + t)).isSome = true) := Lib.hid (fun t ht => by
                      by_cases h : t = j
                      · rw [h, hkj, HL2.out]; rfl
                      · exact HPJ.out t (by omega))
                    clear hl2 hkj hget hr1 hjn hcs8 hby8 hb8 hq8
                    go_wp2_with (go_at_call 19; refine (HLOOK.out kj _ M14.out).mono ?_; rintro e w14b ⟨⟨r, rfl, hr⟩, rfl⟩; obtain ⟨p7, rfl, hp7, hp8⟩ : ∃ p : Nat, r = (p : Int) ∧ p < L'.length ∧ L'[p]? = some (kj, v8) := (by rcases hr with ⟨_, h2⟩ | ⟨p, v', h1, h2, h3, h4⟩; rw [HL2.out] at h2; cases h2; rw [HL2.out] at h4; injection h4 with h4; subst h4; exact ⟨p, h1, h2, h3⟩); obtain ⟨b7, o7, hA7, hb7, y0, y1⟩ := (R10.out.nil M14.out).cells hp8; cases hA7; have hp70 : (0 : Int) ≤ (p7 : Int) := (by omega); have hp71 : ¬ ((p7 : Int) < 0) := (by omega); have hp74 : decide ((p7 : Int) < 0) = false := (by simp); have hp73 : (p7 : Int) < (n5 : Int) := (by have := R10.out.len; omega); simp only at y1; clear hr y0 hb7)
                    go_quiet (fail)
                    go_wp2
                    exact ⟨⟨j + 1, by omega, by go_num, HPJ2.out, M15.out.drewN _⟩, by simp [intOf]; omega⟩
                · obtain rfl : j = 5 := by omega
                  go_wp2
                  exact ⟨⟨k + 1, by omega, by go_num, M14.out⟩, by simp [intOf]; omega⟩
            | some v =>
              have HLK := Lib.hid hl
              have hst := strOf_toList v
              clear hl
              go_wp2_with (first
                | (go_at_call 19; have hx := S12.out; clear hx; refine (HLOOK.out k _ M12.out).mono ?_; rintro e w12b ⟨⟨r, rfl, hr⟩, rfl⟩; obtain ⟨p, rfl, hp1, hp2⟩ : ∃ p : Nat, r = (p : Int) ∧ p < L'.length ∧ L'[p]? = some (k, v) := (by rcases hr with ⟨_, h2⟩ | ⟨p, v', h1, h2, h3, h4⟩; rw [HLK.out] at h2; cases h2; rw [HLK.out] at h4; injection h4 with h4; subst h4; exact ⟨p, h1, h2, h3⟩); obtain ⟨b9, o9, rfl, hb9, z0, z1⟩ := (R10.out.nil M12.out).cells hp2; have hp0 : (0 : Int) ≤ (p : Int) := (by omega); have hp3 : (p : Int) < (n5 : Int) := (by have := R10.out.len; omega); simp only at z1; clear hr z0 hb9)
                | (go_at_call 18; have hx := S11.out; clear hx; refine (S11.out.get (s := k) (by omega) (by omega)).mono ?_; rintro e w12 ⟨A12, n12, c12, he12, h12, m12⟩; rw [HLK.out] at he12; simp only [Option.isSome_some] at he12; subst he12; obtain ⟨h121, h122⟩ := h12 v HLK.out; have hcv12 : ∀ j, (convert 28 9 (.slice A12 n12 c12)).run Try.prog (w12.drewN j) = .ok (.string (strOf v)) (w12.drewN j) := (fun j => conv14 h121 (h122.drewN j)); have S12 := Lib.hid (S11.out.nil m12); have M12 := Lib.hid (M11.out.trans m12); clear h12 m12 h121 h122 S11))
              go_quiet (fail)
              go_wp2_with (go_at_call 20; refine ((S12.out.nil ((Mods.refl Nil _).drewN _)).from_ (s := k) (most := 5) (by omega) (by omega) (by omega) (by omega)).mono ?_; rintro e w13 ⟨A13, c13, n13, R13, rfl, f13, m13⟩; have F13 : Hid (FromR w13 A13 c13 n13 R13 (fromL L' k 5)) := Lib.hid f13; have M13 := Lib.hid ((M12.out.drewN _).trans m13); clear f13 m13 S12)
              go_loopw [19] (fun y wr'' => ∃ j : Nat, j ≤ 5 ∧ y = .int .i64 (j : Int) ∧ (∀ t, t < j → (lookL L' (k + t)).isSome = true) ∧ Mods Nil w13 wr'') (fun y _ => 5 - (intOf y).toNat)
              case atStart => exact ⟨0, Nat.zero_le _, rfl, (fun t h => by omega), Mods.refl _ _⟩
              case round =>
                obtain ⟨j, hj, rfl, hp, hm14⟩ := hrel
                have HPJ := Lib.hid hp
                have M14 := Lib.hid (M13.out.trans hm14)
                have M15 := Lib.hid hm14
                have F14 := Lib.hid (F13.out.nil14 hm14)
                clear hp hm14
                by_cases hj5 : j < 5
                · have hj5I : (j : Int) < 5 := by omega
                  have hwj : IntKind.u64.wrap (j : Int) = (j : Int) := by rw [IntKind.wrap_u64]; omega
                  obtain ⟨kj, hkj⟩ : ∃ kj, k + j = kj := ⟨_, rfl⟩
                  have hkjI : (k : Int) + (j : Int) = (kj : Int) := by omega
                  have hwkj : IntKind.u64.wrap (kj : Int) = (kj : Int) := by rw [IntKind.wrap_u64]; omega
                  cases hl2 : lookL L' kj with
                  | none =>
                    have HL2 := Lib.hid hl2
                    have hnj : n13 = j := by
                      have h1 := F14.out.len
                      have h2 := congrArg List.length F14.out.val
                      rw [List.length_map, from_stop hj5 HPJ.out (by rw [hkj]; exact hl2)] at h2
                      omega
                    have hnjI : ((n13 : Int) != (j : Int)) = false := by rw [hnj]; simp
                    clear hl2 hkj hnj
                    go_wp2_with (go_at_call 19; refine (HLOOK.out kj _ M14.out).mono ?_; rintro e w14b ⟨⟨r, rfl, hr⟩, rfl⟩; obtain rfl : r = -1 := (by rcases hr with ⟨h1, _⟩ | ⟨i, v, _, _, _, h4⟩; exact h1; rw [HL2.out] at h4; cases h4); clear hr)
                    exact ⟨⟨k + 1, by omega, by go_num, M14.out⟩, by simp [intOf]; omega⟩
                  | some v2 =>
                    have HL2 := Lib.hid hl2
                    have hst2 := strOf_toList v2
                    have hget := from_get L' 5 k j hj5 HPJ.out
                    rw [hkj, hl2, ← F14.out.val, List.getElem?_map] at hget
                    obtain ⟨rr, hr1, hr2⟩ := Option.map_eq_some_iff.1 hget
                    have hjn : j < n13 := by rw [← F14.out.len]; exact (List.getElem?_eq_some_iff.1 hr1).1
                    obtain ⟨b8, o8, hA8, hb8, hcs8⟩ := F14.out.sl.at_ (by rw [List.length_map, F14.out.len]; omega)
                    have e8 := hcs8 j _ (by rw [List.getElem?_map, hr1]; rfl)
                    have hby8 := F14.out.bys rr (List.mem_of_getElem? hr1)
                    cases hA8
                    obtain ⟨B8, cb8, v8⟩ := rr
                    simp only at hr2 e8 hby8
                    subst hr2
                    obtain ⟨q8, hq8⟩ : ∃ q8, v8.length = q8 := ⟨_, rfl⟩
                    rw [hq8] at e8
                    have hcv8 : ∀ j', (convert 28 9 (.slice B8 q8 cb8)).run Try.prog (wr.drewN j') = .ok (.string (strOf v8)) (wr.drewN j') := fun j' => conv14 hq8 (hby8.drewN j')
                    have hjnI : decide ((n13 : Int) ≤ (j : Int)) = false := by simp; omega
                    have hjnN : decide (n13 ≤ j) = false := by simp; omega
                    have hjnL : (j : Int) < (n13 : Int) := by omega
                    have HPJ2 : Hid (∀ t, t < j + 1 → (lookL L' (k + t)).isSome = true) := Lib.hid (fun t ht => by
                      by_cases h : t = j
                      · rw [h, hkj, HL2.out]; rfl
                      · exact HPJ.out t (by omega))
                    clear hl2 hkj hget hr1 hjn hcs8 hby8 hb8 hq8
                    go_wp2_with (go_at_call 19; refine (HLOOK.out kj _ M14.out).mono ?_; rintro e w14b ⟨⟨r, rfl, hr⟩, rfl⟩; obtain ⟨p7, rfl, hp7, hp8⟩ : ∃ p : Nat, r = (p : Int) ∧ p < L'.length ∧ L'[p]? = some (kj, v8) := (by rcases hr with ⟨_, h2⟩ | ⟨p, v', h1, h2, h3, h4⟩; rw [HL2.out] at h2; cases h2; rw [HL2.out] at h4; injection h4 with h4; subst h4; exact ⟨p, h1, h2, h3⟩); obtain ⟨b7, o7, hA7, hb7, y0, y1⟩ := (R10.out.nil M14.out).cells hp8; cases hA7; have hp70 : (0 : Int) ≤ (p7 : Int) := (by omega); have hp71 : ¬ ((p7 : Int) < 0) := (by omega); have hp74 : decide ((p7 : Int) < 0) = false := (by simp); have hp73 : (p7 : Int) < (n5 : Int) := (by have := R10.out.len; omega); simp only at y1; clear hr y0 hb7)
                    go_quiet (fail)
                    go_wp2
                    exact ⟨⟨j + 1, by omega, by go_num, HPJ2.out, M15.out.drewN _⟩, by simp [intOf]; omega⟩
                · obtain rfl : j = 5 := by omega
                  go_wp2
                  exact ⟨⟨k + 1, by omega, by go_num, M14.out⟩, by simp [intOf]; omega⟩
          · obtain rfl : k = 12 := by omega
            go_wp2
            exact ⟨⟨i + 1, L', A5, c5, n5, X5, by omega, by go_num, rfl, HLL'.out, R11.out, XA5.out, S11.out⟩, by simp [intOf]; omega⟩
    · obtain rfl : i = n := by omega
      go_wp2_with (first
        | (go_at_call 20; refine (lrn_from_nil _ _ _).mono ?_; rintro e v6 ⟨A6, c6, rfl, m6⟩; have T6 := Lib.hid (T5.out.trans m6); clear m6)
        | (go_at_call 16; refine (lrn_gaps_nil _ _).mono ?_; rintro e v5 ⟨A5, c5, rfl, m5⟩; have T5 := Lib.hid (T4.out.trans m5); clear m5)
        | (go_at_call 13; refine (lrn_top_nil _).mono ?_; rintro e v4 ⟨rfl, m4⟩; have T4 := Lib.hid (T3.out.trans m4); clear m4)
        | (go_at_call 11; refine (lrn_next_nil _).mono ?_; rintro e v3 ⟨rfl, m3⟩; have T3 := Lib.hid (T2.out.trans m3); clear m3)
        | (go_at_call 9; refine (lrn_learn_nil _ _ _ _ _).mono ?_; rintro e v2 ⟨rfl, m2⟩; have T2 := Lib.hid (T1.out.trans m2); clear m2)
        | (go_at_call 18; refine (lrn_get_nil _ _).mono ?_; rintro e v1 ⟨u, rfl, m1⟩; have T1 := Lib.hid m1; clear m1))
      go_ret
      exact ⟨rfl, M1.out.trans (HSA.out.m.trans T6.out)⟩
end Go.Proofs.Ytbpflkjodiaokaa
