/- Texts laid as one: Foldg, Foldh, Foldi. -/
import Derived.Test.YtkodmgnagfolpaaFoldB
import Derived.Lib.SliceRun

section
/- Package fold: Spans. -/
namespace Go.Proofs.Ytkodmgnagfolpaa
set_option maxRecDepth 100000
open Go.RowKit Go.Maps
set_option linter.unusedVariables false
set_option linter.unusedSimpArgs false

set_option maxHeartbeats 1600000 in
theorem spclone_any {w : World} {v : Value} {n : Nat} {xs : List Value} (ho : w.ownsRow 0 47 5 v n xs) (h1 : ∀ u ∈ xs, u.oneCell' = true) (hn : n ≤ 1000000) :
    Calls Try.prog 31 #[v] w fun e w' => ∃ v', e = .returned v' ∧ w'.ownsRow w.heap.size 47 5 v' n xs ∧ Mods Nil w w' := by
  obtain ⟨i0, hi, hz0, hz1, hz2⟩ := info_parts infoSp
  have hl := ho.1
  rcases ho.2 with ⟨rfl, hx⟩ | ⟨g, cap, cur, rfl, hb, hgg, h2, h3, h4, h5⟩
  · obtain rfl : xs = [] := List.eq_nil_of_length_eq_zero (by omega)
    have hq : ∀ W : World, (Go.binOp .eql 44 (.slice none 0 0) (.slice none 0 0)).run Try.prog W = .ok (.bool true) W := fun W => Go.Lib.run_eql_slice_nil W 44 47 none 0 0 0 0 Try.underlying44
    obtain rfl : n = 0 := by simpa using hx
    clear ho hl hx h1
    go_enter Try.func31, Try.ntmps31
    go_wp2_with fail
    go_ret
    exact ⟨_, rfl, World.ownsRow_nil _ _ _ _, Mods.refl _ _⟩
  · have hc := ho.cells (g := g) rfl
    have HC := Lib.hid (show ∀ j u, xs[j]? = some u → (w.alloc (.cells #[] 47)).cell? ((⟨g, 0, none⟩ : Addr).add j) = some u from fun j u hu => by
      have := hc j u hu
      rw [Addr.add_lit] at this ⊢
      exact (World.cell?_of_block (Below.heap_alloc w _ g (Blk.lt (w := w) hgg))).trans this)
    have HE := Lib.hid (show (w.alloc (.cells #[] 47)).ownsRow w.heap.size 47 5 (.slice (some ⟨w.heap.size, 0, none⟩) 0 0) 0 [] from ⟨rfl, .inr ⟨w.heap.size, 0, #[], rfl, Nat.le_refl _, heap_alloc_new w _, Nat.le_refl _, Nat.zero_le _, rfl, rfl⟩⟩)
    have H1 := Lib.hid h1
    have HL := Lib.hid hl
    have hq : ∀ W : World, (Go.binOp .eql 44 (.slice (some ⟨g, 0, none⟩) n cap) (.slice none 0 0)).run Try.prog W = .ok (.bool false) W := fun W => Go.Lib.run_eql_slice_nil W 44 47 (some ⟨g, 0, none⟩) n cap 0 0 Try.underlying44
    clear ho h1 hl hc hgg hb h2 h3 h4 h5
    go_enter Try.func31, Try.ntmps31
    go_wp2_with (at_builtin; refine wpList_append_own _ rfl _ _ 44 rfl w.heap.size 47 i0 (.agg #[.int .u64 0, .int .i64 0, .int .i64 0, .int .u64 0, .int .u64 0]) 5 40 Try.underlying44 hi hz0 hz1 hz2 rfl (by decide) (.slice (some ⟨w.heap.size, 0, none⟩) 0 0) 0 [] rfl HE.out ⟨g, 0, none⟩ n cap xs rfl HL.out HC.out H1.out (by unfold maxLen; omega) (by omega) (by simp) ?_; intro v' w2 hown hgr _; have HO := Lib.hid hown; have HG := Lib.hid hgr; clear hown hgr)
    go_ret
    refine ⟨v', rfl, ?_, ?_⟩
    · have := HO.out
      simpa using this
    · exact ((Mods.refl Nil w).alloc _).grown HG.out (fun k hk hlt => by simp [Value.ownBlock] at hk; omega)
set_option maxHeartbeats 1600000 in
theorem fspans_any {w : World} {f : FA} {s : PF} {T : Nat} (h : StAt w f s T) (hL : s.L.length ≤ 1000000) :
    Calls Try.prog 17 #[.pointer (some ⟨f.b, 0, none⟩)] w fun e w' => ∃ v', e = .returned v' ∧ w'.ownsRow w.heap.size 47 5 v' s.L.length (rowP s.L) ∧ Mods Nil w w' := by
  obtain ⟨d0, d1, d2, d3⟩ := h.cells
  have HC := Lib.hid (spclone_any h.spans (rowP_one s.L) hL)
  clear d0 d2 d3 h
  go_enter Try.func17, Try.ntmps17
  go_wp2_with (go_at_call 31; refine HC.out.mono ?_; rintro e w1 ⟨v', rfl, h1, h2⟩; have H1 := Lib.hid h1; have H2 := Lib.hid h2; clear h1 h2)
  go_ret
  exact ⟨v', rfl, H1.out, H2.out⟩
end Go.Proofs.Ytkodmgnagfolpaa
end

section
/- Package fold: Find. -/
namespace Go.Proofs.Ytkodmgnagfolpaa
set_option maxRecDepth 100000
open Go.RowKit Go.Maps
set_option linter.unusedVariables false
set_option linter.unusedSimpArgs false

set_option maxHeartbeats 1600000 in
theorem find1_any {W : World} {f : FA} {s : PF} {T gS gP p : Nat} (h : StAt W f s T) (hS : Blk W gS 24 #[.pointer (some ⟨f.b, 0, none⟩)]) (hP : Blk W gP 27 #[.int .u64 (p : Int)]) {j : Nat} (hj : j < s.L.length) :
    Calls Try.prog 24 #[.int .i64 (j : Int), .pointer (some ⟨gS, 0, none⟩), .pointer (some ⟨gP, 0, none⟩)] W fun e W' => e = .returned (.bool (decide (p < s.L[j].pos))) ∧ Mods Nil W W' := by
  obtain ⟨d0, d1, d2, d3⟩ := h.cells
  obtain ⟨g, c, hv, hg, c0, c1, c2, c3, c4⟩ := span_at h.spans hj
  rw [hv] at d1
  have bl := h.blk.lt
  obtain ⟨q, hq⟩ : ∃ q, s.L[j].pos = q := ⟨_, rfl⟩
  obtain ⟨n, hn⟩ : ∃ n, s.L.length = n := ⟨_, rfl⟩
  rw [hq] at c0
  rw [hn] at d1 hj
  rw [hq]
  have hjI : (j : Int) < (n : Int) := by omega
  have e0 : ∀ V, Mods Nil W V → V.cell? ⟨f.b, 1, none⟩ = some (.slice (some ⟨g, 0, none⟩) n c) := fun V hV => (World.cell?_of_block (hV.block f.b bl (fun h => h))).trans d1
  have e1 : ∀ V, Mods Nil W V → V.cell? ⟨g, j * 5, none⟩ = some (.int .u64 (q : Int)) := fun V hV => (World.cell?_of_block (hV.block g hg (fun h => h))).trans c0
  have e2 : ∀ V, Mods Nil W V → V.cell? ⟨gS, 0, none⟩ = some (.pointer (some ⟨f.b, 0, none⟩)) := fun V hV => (hS.mods hV (fun h => h)).oneV.1
  have e3 : ∀ V, Mods Nil W V → V.cell? ⟨gP, 0, none⟩ = some (.int .u64 (p : Int)) := fun V hV => (hP.mods hV (fun h => h)).oneV.1
  have hdd : decide ((p : Int) < (q : Int)) = decide (p < q) := by simp
  clear h hS hP d0 d1 d2 d3 hv hg c0 c1 c2 c3 c4 bl hq hn
  go_enter Try.func24, Try.ntmps24
  go_wp2_with fail
  refine gq_region (by kernel_rfl) (by kernel_rfl) ?_
  try simp only [Act.put, List.setIfInBounds_toArray, List.set_cons_zero, List.set_cons_succ]
  repeat (first
    | go_big_quiet_skip
    | (go_big_quiet_want; first
        | (refine gq_op (v := ?_) ?_ ?_; rotate_left; (focus (intro V hV; go_simp; try with_reducible rfl)); go_big_quiet_on))
      simp only [Act.put, List.setIfInBounds_toArray, List.set_cons_zero, List.set_cons_succ])
  refine wpQuiet_nil ?_
  intro V hV
  go_wp2_with fail
  go_ret
  exact ⟨rfl, hV⟩
set_option maxHeartbeats 1600000 in
/-- The library's search, whatever is asked. -/
theorem search_gen (w : World) {f : FuncId} (hf : ∀ args (W : World), (callFunc f args).run Try.prog W = .ok (.enter f args) W) {u v : Value} {n : Nat} (hn : n ≤ 1000000) (yes : Nat → Bool) (hmono : ∀ i j, i ≤ j → j < n → yes i = true → yes j = true)
    (hJ : ∀ (j : Nat) W, j < n → Mods Nil w W → Calls Try.prog f #[.int .i64 (j : Int), u, v] W fun e W' => e = .returned (.bool (yes j)) ∧ Mods Nil W W') :
    Calls Try.prog 23 #[.int .i64 (n : Int), .func (.func f) #[] #[u, v]] w fun e w' => ∃ k : Nat, e = .returned (.int .i64 (k : Int)) ∧ k ≤ n ∧ (∀ i, i < k → yes i = false) ∧ (k < n → yes k = true) ∧ Mods Nil w w' := by
  have HJ := Lib.hid hJ
  have HMONO := Lib.hid hmono
  clear hJ hmono
  go_enter Try.func23, Try.ntmps23
  go_wp2_with fail
  go_loopw [5, 6] (fun x y wr => ∃ i j : Nat, i ≤ j ∧ j ≤ n ∧ x = .int .i64 (i : Int) ∧ y = .int .i64 (j : Int) ∧ (∀ t, t < i → yes t = false) ∧ (j < n → yes j = true) ∧ Mods Nil w wr) (fun x y _ => (intOf y).toNat - (intOf x).toNat)
  case atStart => exact ⟨0, n, Nat.zero_le _, Nat.le_refl _, rfl, rfl, fun t h => by omega, fun h => by omega, Mods.refl _ _⟩
  case round =>
    obtain ⟨i, j, hij, hjn, rfl, rfl, h1, h2, hmo⟩ := hrel
    have H1 := Lib.hid h1
    have H2 := Lib.hid h2
    have HM := Lib.hid hmo
    clear h1 h2 hmo
    by_cases hlt : i < j
    · have hltI : (i : Int) < (j : Int) := by omega
      obtain ⟨m, hm⟩ : ∃ m, (i + j) / 2 = m := ⟨_, rfl⟩
      have him : i ≤ m := by omega
      have hmj : m < j := by omega
      have hw1 : IntKind.i64.wrap ((i : Int) + (j : Int)) = (i : Int) + (j : Int) := by rw [IntKind.wrap_i64]; omega
      have hdv : ((i : Int) + (j : Int)) / 2 = (m : Int) := by omega
      have HC := Lib.hid (HJ.out m _ (by omega) HM.out)
      have HIM := Lib.hid him
      have HMJ := Lib.hid hmj
      clear hm him hmj
      cases hy : yes m with
      | true =>
        rw [hy] at HC
        have HY := Lib.hid hy
        clear hy
        go_wp2_with (refine HC.out.mono ?_; rintro e w1 ⟨rfl, m1⟩; have M1 := Lib.hid (HM.out.trans m1); clear m1)
        exact ⟨⟨i, m, HIM.out, by have := HMJ.out; omega, rfl, rfl, H1.out, fun _ => HY.out, M1.out⟩, by have := HMJ.out; have := HIM.out; simp [intOf]; omega⟩
      | false =>
        rw [hy] at HC
        have HY := Lib.hid hy
        clear hy
        have hw2 : IntKind.i64.wrap ((m : Int) + 1) = ((m + 1 : Nat) : Int) := by rw [IntKind.wrap_i64]; omega
        go_wp2_with (refine HC.out.mono ?_; rintro e w1 ⟨rfl, m1⟩; have M1 := Lib.hid (HM.out.trans m1); clear m1)
        have hall : ∀ t, t < m + 1 → yes t = false := fun t ht => by
          cases hyt : yes t with
          | false => rfl
          | true =>
            have := HMONO.out t m (by omega) (by have := HMJ.out; omega) hyt
            rw [HY.out] at this
            cases this
        exact ⟨⟨m + 1, j, by have := HMJ.out; omega, hjn, by go_num, rfl, hall, H2.out, M1.out⟩, by have := HMJ.out; have := HIM.out; simp [intOf]; omega⟩
    · obtain rfl : i = j := by omega
      go_wp2_with fail
      go_ret
      exact ⟨i, rfl, hjn, H1.out, H2.out, HM.out⟩
theorem results_tmp4 {fn : Func} {t u v x : Tmp} (h : fn.results = #[.tmp t, .tmp u, .tmp v, .tmp x]) (tmps : Array Value) (P : Program) (w : World) :
    (results fn tmps).run P w = .ok (.tuple #[tmps.getD t undef, tmps.getD u undef, tmps.getD v undef, tmps.getD x undef]) w := by
  simp [results, h]
/-- What Find tells. -/
def findE (s : PF) (p : Nat) : Int := if p < s.low then 35 else if s.n ≤ p then 36 else 0
theorem search_at {s : PF} (hs : s.len) {p k : Nat} (hp : p < s.n) (hk : k ≤ s.L.length) (h1 : ∀ i, (h : i < k) → ¬ p < (s.L[i]'(by omega)).pos) (h2 : (h : k < s.L.length) → p < s.L[k].pos) : ∃ i, ∃ h : i < s.L.length, k = i + 1 ∧ s.L[i].at p := by
  have hk0 : 0 < k := by
    rcases Nat.eq_zero_or_pos k with h | h
    · subst h
      by_cases hl : 0 < s.L.length
      · have := h2 hl
        rw [(hs.ok 0 hl).1] at this
        simp [tot] at this
      · rw [hs.n, List.eq_nil_of_length_eq_zero (show s.L.length = 0 by omega)] at hp
        simp [tot] at hp
    · exact h
  have hi : k - 1 < s.L.length := by omega
  refine ⟨k - 1, hi, by omega, ?_⟩
  have ha := h1 (k - 1) (by omega)
  refine ⟨by omega, ?_⟩
  have hst := tot_take_succ s.L hi
  rw [show k - 1 + 1 = k by omega, ← (hs.ok _ hi).1] at hst
  by_cases hkl : k < s.L.length
  · have := h2 hkl
    rw [(hs.ok k hkl).1, hst] at this
    exact this
  · rw [List.take_of_length_le (by omega), ← hs.n] at hst
    omega
theorem okL_rise {l : List PP} (hl : okL l) {i j : Nat} (hij : i ≤ j) (hj : j < l.length) : (l[i]'(by omega)).pos ≤ l[j].pos := by
  rw [(hl i (by omega)).1, (hl j hj).1]
  exact tot_take_mono l hij
theorem span_le {s : PF} (hg : s.good) {i : Nat} (hi : i < s.L.length) : s.L[i].off + s.L[i].many ≤ s.n := by
  obtain ⟨h, hs, _, _, _, _, h6⟩ := good_span hg hi
  have h1 := hg.lens _ _ hs s.L[i].seg
  have h2 := cnt_le_tot s.L[i].sh s.L[i].seg s.L
  rw [hg.n]
  omega
def FTold (w : World) (s : PF) (p : Nat) (e : Ending) (w' : World) : Prop := (findE s p ≠ 0 → e = .returned (.tuple #[.int .i64 0, .int .i64 0, .int .u64 0, .int .i64 (findE s p)])) ∧ (findE s p = 0 → ∃ i, ∃ h : i < s.L.length, s.L[i].at p ∧ e = .returned (.tuple #[.int .i64 s.L[i].sh, .int .i64 (s.L[i].seg : Int), .int .u64 ((s.L[i].off + (p - s.L[i].pos) : Nat) : Int), .int .i64 0])) ∧ Mods Nil w w'
set_option maxHeartbeats 6400000 in
theorem ffind_any {w : World} {f : FA} {s : PF} {T : Nat} (h : StAt w f s T) (hg : s.good) (hL : s.L.length ≤ 1000000) {p : Nat} (hp : p < 18446744073709551616) :
    Calls Try.prog 14 #[.pointer (some ⟨f.b, 0, none⟩), .int .u64 (p : Int)] w (FTold w s p) := by
  obtain ⟨W0, hW0⟩ : ∃ W, w.alloc (.cells #[.pointer (some ⟨f.b, 0, none⟩)] 24) = W := ⟨_, rfl⟩
  obtain ⟨W1, hW1⟩ : ∃ W, W0.alloc (.cells #[.int .u64 (p : Int)] 27) = W := ⟨_, rfl⟩
  have M1 : Hid (Mods Nil w W1) := by rw [← hW1, ← hW0]; exact Lib.hid (((Mods.refl Nil w).alloc _).alloc _)
  have B0 : Hid (Blk W1 w.heap.size 24 #[.pointer (some ⟨f.b, 0, none⟩)]) := by
    subst hW1; subst hW0
    exact Lib.hid ((Blk.new w _ _).alloc _)
  have B1 : Hid (Blk W1 W0.heap.size 27 #[.int .u64 (p : Int)]) := by
    subst hW1
    exact Lib.hid (Blk.new W0 _ _)
  have H1 := Lib.hid (h.nil M1.out)
  have HG := Lib.hid hg
  have x0 := B0.out.oneV.1
  have x1 := B1.out.oneV.1
  have e0 : ∀ V, Mods Nil W1 V → V.cell? ⟨w.heap.size, 0, none⟩ = some (.pointer (some ⟨f.b, 0, none⟩)) := fun V hV => (B0.out.mods hV (fun h => h)).oneV.1
  have e1 : ∀ V, Mods Nil W1 V → V.cell? ⟨W0.heap.size, 0, none⟩ = some (.int .u64 (p : Int)) := fun V hV => (B1.out.mods hV (fun h => h)).oneV.1
  obtain ⟨lo, hlo⟩ : ∃ lo, s.low = lo := ⟨_, rfl⟩
  have e2 : ∀ V, Mods Nil W1 V → V.cell? ⟨f.b, 2, none⟩ = some (.int .u64 (lo : Int)) := fun V hV => by
    have := (H1.out.nil hV).cells.2.2.1
    rwa [hlo] at this
  obtain ⟨N, hN⟩ : ∃ N, s.n = N := ⟨_, rfl⟩
  have HLEN := Lib.hid (fun V (hV : Mods Nil W1 V) => (flen_any (H1.out.nil hV) hg.len hL).mono fun e w' h => (⟨by rw [h.1, hN], hV.trans h.2⟩ : e = .returned (.int .u64 (N : Int)) ∧ Mods Nil W1 w'))
  have HPR : Hid (∀ e w', (findE s p ≠ 0 → e = .returned (.tuple #[.int .i64 0, .int .i64 0, .int .u64 0, .int .i64 (findE s p)])) → (findE s p = 0 → ∃ i, ∃ h : i < s.L.length, s.L[i].at p ∧ e = .returned (.tuple #[.int .i64 s.L[i].sh, .int .i64 (s.L[i].seg : Int), .int .u64 ((s.L[i].off + (p - s.L[i].pos) : Nat) : Int), .int .i64 0])) → Mods Nil w w' → FTold w s p e w') := Lib.hid (fun e w' a b c => ⟨a, b, c⟩)
  have HFE : Hid (findE s p = if p < lo then 35 else if N ≤ p then 36 else 0) := Lib.hid (by unfold findE; rw [hlo, hN])
  obtain ⟨fe, hfe⟩ : ∃ fe, findE s p = fe := ⟨_, rfl⟩
  rw [hfe] at HPR HFE
  have HNN := Lib.hid hN
  have hdl : decide ((p : Int) < (lo : Int)) = decide (p < lo) := by simp
  have hm : Hid (∀ V, Mods Nil W1 V → V.heap.size ≥ 0) := Lib.hid (fun _ _ => Nat.zero_le _)
  clear h hg hN hlo hfe hm
  by_cases hlt : p < lo
  · obtain rfl : fe = 35 := by rw [HFE.out, if_pos hlt]
    have hltI : (p : Int) < (lo : Int) := by omega
    clear hdl
    go_enter Try.func14, Try.ntmps14
    go_wp2_with fail
    refine gq_region (by kernel_rfl) (by kernel_rfl) ?_
    try simp only [Act.put, List.setIfInBounds_toArray, List.set_cons_zero, List.set_cons_succ]
    repeat (first
      | go_big_quiet_skip
      | (go_big_quiet_want; first
          | (refine gq_op (v := ?_) ?_ ?_; rotate_left; (focus (intro V hV; go_simp; try with_reducible rfl)); go_big_quiet_on))
        simp only [Act.put, List.setIfInBounds_toArray, List.set_cons_zero, List.set_cons_succ])
    refine wpQuiet_nil ?_
    intro V hV
    have HV := Lib.hid (M1.out.trans hV)
    clear hV e0 e1 e2
    go_wp2_with fail
    refine bodyPost_ret (results_tmp4 rfl _ _ _) rfl ?_
    exact HPR.out _ _ (fun _ => rfl) (fun h => absurd h (by decide)) HV.out
  · have hltJ : decide (p < lo) = false := by simpa using hlt
    rw [hltJ] at hdl
    have E0 := Lib.hid e0
    have E1 := Lib.hid e1
    by_cases hnp : N ≤ p
    · obtain rfl : fe = 36 := by rw [HFE.out, if_neg hlt, if_pos hnp]
      have hnpI : (N : Int) ≤ (p : Int) := by omega
      go_enter Try.func14, Try.ntmps14
      go_wp2_with fail
      refine gq_region (by kernel_rfl) (by kernel_rfl) ?_
      try simp only [Act.put, List.setIfInBounds_toArray, List.set_cons_zero, List.set_cons_succ]
      repeat (first
        | go_big_quiet_skip
        | (go_big_quiet_want; first
            | (refine gq_op (v := ?_) ?_ ?_; rotate_left; (focus (intro V hV; go_simp; try with_reducible rfl)); go_big_quiet_on))
          simp only [Act.put, List.setIfInBounds_toArray, List.set_cons_zero, List.set_cons_succ])
      refine wpQuiet_nil ?_
      intro V hV
      have HV := Lib.hid hV
      have HLEN2 : Hid (∀ V', Mods Nil V V' → Calls Try.prog 13 #[.pointer (some ⟨f.b, 0, none⟩)] V' fun e w' => e = .returned (.int .u64 (N : Int)) ∧ Mods Nil V w') := Lib.hid (fun V' hV' => (flen_any ((H1.out.nil HV.out).nil hV') HG.out.len hL).mono fun e w' h => ⟨by rw [h.1, HNN.out], hV'.trans h.2⟩)
      have k0 : ∀ V', Mods Nil V V' → V'.cell? ⟨w.heap.size, 0, none⟩ = some (.pointer (some ⟨f.b, 0, none⟩)) := fun V' hV' => E0.out V' (HV.out.trans hV')
      have k1 : ∀ V', Mods Nil V V' → V'.cell? ⟨W0.heap.size, 0, none⟩ = some (.int .u64 (p : Int)) := fun V' hV' => E1.out V' (HV.out.trans hV')
      clear hV e0 e1 e2
      go_wp2_with fail
      refine gq_region (by kernel_rfl) (by kernel_rfl) ?_
      try simp only [Act.put, List.setIfInBounds_toArray, List.set_cons_zero, List.set_cons_succ]
      repeat (first
        | go_big_quiet_skip
        | (go_big_quiet_want; first
            | (refine gq_call HLEN2.out ?_ ?_; (focus (intro V; go_simp; done)); go_big_quiet_on)
            | (refine gq_op (v := ?_) ?_ ?_; rotate_left; (focus (intro V hV; go_simp; try with_reducible rfl)); go_big_quiet_on))
          simp only [Act.put, List.setIfInBounds_toArray, List.set_cons_zero, List.set_cons_succ])
      refine wpQuiet_nil ?_
      intro V2 hV2
      have HV2 := Lib.hid (M1.out.trans (HV.out.trans hV2))
      clear hV2 k0 k1
      go_wp2_with fail
      refine bodyPost_ret (results_tmp4 rfl _ _ _) rfl ?_
      exact HPR.out _ _ (fun _ => rfl) (fun h => absurd h (by decide)) HV2.out
    · obtain rfl : fe = 0 := by rw [HFE.out, if_neg hlt, if_neg hnp]
      have hnpI : (p : Int) < (N : Int) := by omega
      have hnpJ : decide (N ≤ p) = false := by simpa using hnp
      have HSE := Lib.hid (fun V (hV : Mods Nil W1 V) => search_gen V (f := 24) (u := .pointer (some ⟨w.heap.size, 0, none⟩)) (v := .pointer (some ⟨W0.heap.size, 0, none⟩)) (n := s.L.length) (enters Try.func24 (by kernel_rfl) (by rfl)) hL (fun j => if h : j < s.L.length then decide (p < s.L[j].pos) else true)
        (fun i j hij hj hy => by
          rw [dif_pos (show i < s.L.length by omega)] at hy
          rw [dif_pos hj]
          simp only [decide_eq_true_eq] at hy ⊢
          exact Nat.lt_of_lt_of_le hy (okL_rise HG.out.ok hij hj))
        (fun j V' hj hV' => by
          have := find1_any ((H1.out.nil hV).nil hV') ((B0.out.mods hV (fun h => h)).mods hV' (fun h => h)) ((B1.out.mods hV (fun h => h)).mods hV' (fun h => h)) hj
          simp only [dif_pos hj]
          exact this))
      have HLN := Lib.hid (show p < s.n by rw [HNN.out]; omega)
      go_enter Try.func14, Try.ntmps14
      go_wp2_with fail
      refine gq_region (by kernel_rfl) (by kernel_rfl) ?_
      try simp only [Act.put, List.setIfInBounds_toArray, List.set_cons_zero, List.set_cons_succ]
      repeat (first
        | go_big_quiet_skip
        | (go_big_quiet_want; first
            | (refine gq_op (v := ?_) ?_ ?_; rotate_left; (focus (intro V hV; go_simp; try with_reducible rfl)); go_big_quiet_on))
          simp only [Act.put, List.setIfInBounds_toArray, List.set_cons_zero, List.set_cons_succ])
      refine wpQuiet_nil ?_
      intro V hV
      have HV := Lib.hid hV
      have HLEN2 : Hid (∀ V', Mods Nil V V' → Calls Try.prog 13 #[.pointer (some ⟨f.b, 0, none⟩)] V' fun e w' => e = .returned (.int .u64 (N : Int)) ∧ Mods Nil V w') := Lib.hid (fun V' hV' => (flen_any ((H1.out.nil HV.out).nil hV') HG.out.len hL).mono fun e w' h => ⟨by rw [h.1, HNN.out], hV'.trans h.2⟩)
      have k0 : ∀ V', Mods Nil V V' → V'.cell? ⟨w.heap.size, 0, none⟩ = some (.pointer (some ⟨f.b, 0, none⟩)) := fun V' hV' => E0.out V' (HV.out.trans hV')
      have k1 : ∀ V', Mods Nil V V' → V'.cell? ⟨W0.heap.size, 0, none⟩ = some (.int .u64 (p : Int)) := fun V' hV' => E1.out V' (HV.out.trans hV')
      clear hV e0 e1 e2
      go_wp2_with fail
      refine gq_region (by kernel_rfl) (by kernel_rfl) ?_
      try simp only [Act.put, List.setIfInBounds_toArray, List.set_cons_zero, List.set_cons_succ]
      repeat (first
        | go_big_quiet_skip
        | (go_big_quiet_want; first
            | (refine gq_call HLEN2.out ?_ ?_; (focus (intro V; go_simp; done)); go_big_quiet_on)
            | (refine gq_op (v := ?_) ?_ ?_; rotate_left; (focus (intro V hV; go_simp; try with_reducible rfl)); go_big_quiet_on))
          simp only [Act.put, List.setIfInBounds_toArray, List.set_cons_zero, List.set_cons_succ])
      refine wpQuiet_nil ?_
      intro V2 hV2
      have HV2 := Lib.hid (HV.out.trans hV2)
      have k0 := E0.out V2 HV2.out
      have hpos : 0 < s.L.length := by
        rcases Nat.eq_zero_or_pos s.L.length with h | h
        · have := HG.out.n
          rw [List.eq_nil_of_length_eq_zero h] at this
          have := HLN.out
          simp [tot] at *
          omega
        · exact h
      obtain ⟨g, c, hv, hgl, -⟩ := span_at (H1.out.nil HV2.out).spans hpos
      have j1 := (H1.out.nil HV2.out).cells.2.1
      rw [hv] at j1
      have HVV := Lib.hid hv
      clear hV2 k1 hv hpos
      go_wp2_with (go_at_call 23; refine (HSE.out V2 HV2.out).mono ?_; rintro e w4 ⟨k, rfl, hk, h1, h2, m4⟩; have N4 := Lib.hid (HV2.out.trans m4); have HK := Lib.hid (search_at HG.out.len HLN.out hk (fun i hi => (by have := h1 i hi; rw [dif_pos (show i < s.L.length by omega)] at this; simpa using this)) (fun h => (by have := h2 h; rw [dif_pos h] at this; simpa using this))); clear hk h1 h2 m4; obtain ⟨i, hi, hki, hat⟩ := HK.out; have HLE := Lib.hid (span_le HG.out hi); subst hki; have y0 := E0.out w4 N4.out; have y1 := E1.out w4 N4.out; have y2 := (H1.out.nil N4.out).cells.2.1; rw [HVV.out] at y2; obtain ⟨g2, c2, hv2, -, q0, q1, q2, q3, q4⟩ := span_at (H1.out.nil N4.out).spans hi; rw [HVV.out] at hv2; injection hv2 with e1 e2 e3; injection e1 with e1; injection e1 with e1; subst e1; have hiI : (i : Int) < (s.L.length : Int) := (by omega); have hw9 : IntKind.i64.wrap (((i + 1 : Nat) : Int) - 1) = (i : Int) := (by rw [IntKind.wrap_i64]; omega); obtain ⟨sp, hsp⟩ : ∃ sp, s.L[i] = sp := ⟨_, rfl⟩; rw [hsp] at hat q0 q1 q2 q3 q4 HLE; have HAT := Lib.hid hat; have HSP := Lib.hid hsp; clear hsp hat)
      obtain ⟨psp, hps⟩ : ∃ x, sp.pos = x := ⟨_, rfl⟩
      obtain ⟨osp, hos⟩ : ∃ x, sp.off = x := ⟨_, rfl⟩
      obtain ⟨ssp, hss⟩ : ∃ x, sp.sh = x := ⟨_, rfl⟩
      obtain ⟨gsp, hgs⟩ : ∃ x, sp.seg = x := ⟨_, rfl⟩
      obtain ⟨msp, hms⟩ : ∃ x, sp.many = x := ⟨_, rfl⟩
      have HP := Lib.hid hps
      have HO := Lib.hid hos
      have HS := Lib.hid hss
      have HGG := Lib.hid hgs
      have hat2 := HAT.out
      have hle2 := HLE.out
      unfold PP.at at hat2
      rw [hps, hms] at hat2
      rw [hos, hms] at hle2
      have hfit := HG.out.fit
      have hws : IntKind.u64.wrap ((p : Int) - (psp : Int)) = ((p - psp : Nat) : Int) := by rw [IntKind.wrap_u64]; omega
      have hwa : IntKind.u64.wrap ((osp : Int) + ((p - psp : Nat) : Int)) = ((osp + (p - psp) : Nat) : Int) := by rw [IntKind.wrap_u64]; omega
      rw [hps, hos, hss, hgs, hms]
      obtain ⟨W5, hW5⟩ : ∃ W, w4.alloc (.cells #[.int .u64 (psp : Int), .int .i64 ssp, .int .i64 (gsp : Int), .int .u64 (osp : Int), .int .u64 (msp : Int)] 47) = W := ⟨_, rfl⟩
      rw [hW5]
      have M5 : Hid (Mods Nil W1 W5) := by rw [← hW5]; exact Lib.hid (N4.out.alloc _)
      have hb5 : Blk W5 w4.heap.size 47 #[.int .u64 (psp : Int), .int .i64 ssp, .int .i64 (gsp : Int), .int .u64 (osp : Int), .int .u64 (msp : Int)] := by rw [← hW5]; exact Blk.new w4 _ _
      have z0 : ∀ V, Mods Nil W5 V → V.cell? ⟨w4.heap.size, 0, none⟩ = some (.int .u64 (psp : Int)) := fun V hV => (hb5.mods hV (fun h => h)).cell 0
      have z1 : ∀ V, Mods Nil W5 V → V.cell? ⟨w4.heap.size, 1, none⟩ = some (.int .i64 ssp) := fun V hV => (hb5.mods hV (fun h => h)).cell 1
      have z2 : ∀ V, Mods Nil W5 V → V.cell? ⟨w4.heap.size, 2, none⟩ = some (.int .i64 (gsp : Int)) := fun V hV => (hb5.mods hV (fun h => h)).cell 2
      have z3 : ∀ V, Mods Nil W5 V → V.cell? ⟨w4.heap.size, 3, none⟩ = some (.int .u64 (osp : Int)) := fun V hV => (hb5.mods hV (fun h => h)).cell 3
      have z5 : ∀ V, Mods Nil W5 V → V.cell? ⟨W0.heap.size, 0, none⟩ = some (.int .u64 (p : Int)) := fun V hV => E1.out V (M5.out.trans hV)
      clear hps hos hss hgs hms hat2 hle2 hfit y0 y1 y2 q0 q1 q2 q3 q4 hW5 hb5 k0 j1
      go_wp2_with fail
      refine gq_region (by kernel_rfl) (by kernel_rfl) ?_
      try simp only [Act.put, List.setIfInBounds_toArray, List.set_cons_zero, List.set_cons_succ]
      repeat (first
        | go_big_quiet_skip
        | (go_big_quiet_want; first
            | (refine gq_op (v := ?_) ?_ ?_; rotate_left; (focus (intro V hV; go_simp; try with_reducible rfl)); go_big_quiet_on))
          simp only [Act.put, List.setIfInBounds_toArray, List.set_cons_zero, List.set_cons_succ])
      refine wpQuiet_nil ?_
      intro V hV
      have MV := Lib.hid (M1.out.trans (M5.out.trans hV))
      clear hV z0 z1 z2 z3 z5
      go_wp2_with fail
      refine bodyPost_ret (results_tmp4 rfl _ _ _) rfl ?_
      exact HPR.out _ _ (fun h => absurd rfl h) (fun _ => ⟨i, hi, by rw [HSP.out]; exact HAT.out, by rw [HSP.out, HS.out, HGG.out, HO.out, HP.out]; rfl⟩) MV.out
end Go.Proofs.Ytkodmgnagfolpaa
end

section
/- Package fold: Place. -/
namespace Go.Proofs.Ytkodmgnagfolpaa
set_option maxRecDepth 100000
open Go.RowKit Go.Maps
set_option linter.unusedVariables false
set_option linter.unusedSimpArgs false

/-- Does a span end behind a record of its segment? -/
def endsB (h g : Int) (o : Nat) (q : PP) : Bool := decide (q.sh = h) && (decide ((q.seg : Int) = g) && decide (o < q.off + q.many))
set_option maxHeartbeats 1600000 in
theorem place1_any {W : World} {g5 g6 g7 o : Nat} {h g : Int} (q : PP) (h5 : Blk W g5 3 #[.int .i64 h]) (h6 : Blk W g6 3 #[.int .i64 g]) (h7 : Blk W g7 27 #[.int .u64 (o : Int)]) (hq : q.off + q.many < 18446744073709551616) :
    Calls Try.prog 27 #[.agg (cellsP q).toArray, .pointer (some ⟨g5, 0, none⟩), .pointer (some ⟨g6, 0, none⟩), .pointer (some ⟨g7, 0, none⟩)] W fun e W' => e = .returned (.bool (endsB h g o q)) ∧ Mods Nil W W' := by
  obtain ⟨W1, hW1⟩ : ∃ V, W.alloc (.cells (cellsP q).toArray 47) = V := ⟨_, rfl⟩
  have M1 : Hid (Mods Nil W W1) := by rw [← hW1]; exact Lib.hid ((Mods.refl Nil W).alloc _)
  have B1 : Blk W1 W.heap.size 47 (cellsP q).toArray := by rw [← hW1]; exact Blk.new W _ _
  have q0 := B1.cell 0
  have q1 := B1.cell 1
  have q2 := B1.cell 2
  have q3 := B1.cell 3
  have q4 := B1.cell 4
  unfold cellsP at q0 q1 q2 q3 q4
  simp only [List.getElem?_toArray, List.getElem?_cons_succ, List.getElem?_cons_zero] at q0 q1 q2 q3 q4
  have y5 := (h5.mods M1.out (fun h => h)).oneV.1
  have y6 := (h6.mods M1.out (fun h => h)).oneV.1
  have y7 := (h7.mods M1.out (fun h => h)).oneV.1
  have hw : IntKind.u64.wrap ((q.off : Int) + (q.many : Int)) = ((q.off + q.many : Nat) : Int) := by rw [IntKind.wrap_u64]; omega
  clear h5 h6 h7 hq B1
  unfold cellsP at hW1 ⊢
  unfold endsB
  obtain ⟨a, ha⟩ : ∃ a, q.sh = a := ⟨_, rfl⟩
  obtain ⟨b, hb⟩ : ∃ b, q.seg = b := ⟨_, rfl⟩
  obtain ⟨c, hc⟩ : ∃ c, q.off + q.many = c := ⟨_, rfl⟩
  rw [ha] at q1 hW1 ⊢
  rw [hb] at q2 hW1 ⊢
  rw [hc] at hw ⊢
  clear ha hb hc
  by_cases h1 : a = h
  · subst h1
    by_cases h2 : (b : Int) = g
    · subst h2
      by_cases h3 : o < c
      · have h3I : (o : Int) < (c : Int) := by omega
        rw [show (decide (a = a) && (decide ((b : Int) = (b : Int)) && decide (o < c))) = true by simp [h3]]
        go_enter Try.func27, Try.ntmps27
        go_wp2_with fail
        go_ret
        exact ⟨rfl, M1.out⟩
      · have h3I : (c : Int) ≤ (o : Int) := by omega
        rw [show (decide (a = a) && (decide ((b : Int) = (b : Int)) && decide (o < c))) = false by simp [h3]]
        go_enter Try.func27, Try.ntmps27
        go_wp2_with fail
        go_ret
        exact ⟨rfl, M1.out⟩
    · have h2I : ((b : Int) == g) = false := by rw [beq_eq_false_iff_ne]; exact h2
      rw [show (decide (a = a) && (decide ((b : Int) = g) && decide (o < c))) = false by simp [h2]]
      go_enter Try.func27, Try.ntmps27
      go_wp2_with fail
      go_ret
      exact ⟨rfl, M1.out⟩
  · have h1I : (a == h) = false := by rw [beq_eq_false_iff_ne]; exact h1
    rw [show (decide (a = h) && (decide ((b : Int) = g) && decide (o < c))) = false by simp [h1]]
    go_enter Try.func27, Try.ntmps27
    go_wp2_with fail
    go_ret
    exact ⟨rfl, M1.out⟩
set_option maxHeartbeats 1600000 in
/-- The first span that meets something. -/
theorem spindex_any (w : World) {f : FuncId} (hf : ∀ args (W : World), (callFunc f args).run Try.prog W = .ok (.enter f args) W) {u1 u2 u3 v : Value} {l : List PP} (ho : w.ownsRow 0 47 5 v l.length (rowP l)) (hn : l.length ≤ 1000000) (yes : PP → Bool)
    (hJ : ∀ (i : Nat) W (h : i < l.length), Mods Nil w W → Calls Try.prog f #[.agg (cellsP l[i]).toArray, u1, u2, u3] W fun e W' => e = .returned (.bool (yes l[i])) ∧ Mods Nil W W') (hex : ∃ i, ∃ h : i < l.length, yes l[i] = true) :
    Calls Try.prog 26 #[v, .func (.func f) #[] #[u1, u2, u3]] w fun e w' => ∃ i : Nat, ∃ h : i < l.length, e = .returned (.int .i64 (i : Int)) ∧ yes l[i] = true ∧ (∀ j, (hj : j < i) → yes (l[j]'(by omega)) = false) ∧ Mods Nil w w' := by
  have HJ := Lib.hid hJ
  have HEX := Lib.hid hex
  have HO := Lib.hid ho
  have hpos : 0 < l.length := by obtain ⟨i, h, _⟩ := hex; omega
  obtain ⟨g, c, hv, hg, -⟩ := span_at ho hpos
  subst hv
  clear hJ hex ho
  go_enter Try.func26, Try.ntmps26
  go_wp2_with fail
  go_loopw [8] (fun x wr => ∃ j : Nat, j ≤ l.length ∧ x = .int .i64 (j : Int) ∧ (∀ t, (h : t < l.length) → t < j → yes l[t] = false) ∧ Mods Nil w wr) (fun x _ => l.length - (intOf x).toNat)
  case atStart => exact ⟨0, Nat.zero_le _, rfl, fun t h h0 => by omega, Mods.refl _ _⟩
  case round =>
    obtain ⟨j, hj, rfl, h1, hmo⟩ := hrel
    have H1 := Lib.hid h1
    have HM := Lib.hid hmo
    clear h1 hmo
    have hlt : j < l.length := by
      rcases Nat.lt_or_ge j l.length with h | h
      · exact h
      · obtain ⟨i, hi, hy⟩ := HEX.out
        have := H1.out i hi (by omega)
        rw [hy] at this; cases this
    have hjI : (j : Int) < (l.length : Int) := by omega
    have hjl : j < l.length := hlt
    have hor := own_mods HO.out HM.out (fun _ _ h => h)
    obtain ⟨q0, q1, q2, q3, q4⟩ := span_lit hor hjl
    have HC := Lib.hid (HJ.out j wr hjl HM.out)
    obtain ⟨sp, hsp⟩ : ∃ sp, l[j] = sp := ⟨_, rfl⟩
    rw [hsp] at q0 q1 q2 q3 q4 HC
    have HSP := Lib.hid hsp
    unfold cellsP at HC
    cases hy : yes sp with
    | true =>
      rw [hy] at HC
      have HY := Lib.hid hy
      clear hy hor hsp
      go_wp2_with (refine HC.out.mono ?_; rintro e w1 ⟨rfl, m1⟩; have M1 := Lib.hid (HM.out.trans m1); clear m1)
      go_ret
      exact ⟨j, hjl, rfl, by rw [HSP.out]; exact HY.out, fun t ht => H1.out t (by omega) ht, M1.out⟩
    | false =>
      rw [hy] at HC
      have HY := Lib.hid hy
      clear hy hor hsp
      go_wp2_with (refine HC.out.mono ?_; rintro e w1 ⟨rfl, m1⟩; have M1 := Lib.hid (HM.out.trans m1); clear m1)
      have hall : ∀ t, (h : t < l.length) → t < j + 1 → yes l[t] = false := fun t ht htj => by
        rcases Nat.lt_or_ge t j with h | h
        · exact H1.out t ht h
        · obtain rfl : t = j := by omega
          rw [HSP.out]; exact HY.out
      exact ⟨⟨j + 1, by omega, by go_num, hall, M1.out⟩, by simp [intOf]; omega⟩
/-- What Place tells. -/
def placeE (s : PF) (h g : Int) (o : Nat) : Int := match s.sh h with | none => 30 | some q => if g < 0 ∨ q.segs ≤ g then 30 else if vat q.lens g.toNat ≤ o then 36 else 0
def PTold (w : World) (s : PF) (h g : Int) (o : Nat) (e : Ending) (w' : World) : Prop := (placeE s h g o ≠ 0 → e = .returned (.tuple #[.int .u64 0, .int .i64 (placeE s h g o)])) ∧ (placeE s h g o = 0 → ∃ i, ∃ hi : i < s.L.length, s.L[i].has h g.toNat o ∧ e = .returned (.tuple #[.int .u64 ((s.L[i].pos + (o - s.L[i].off) : Nat) : Int), .int .i64 0])) ∧ Mods Nil w w'
theorem first_has {s : PF} (hg : s.good) {h : Int} {g o : Nat} {q : PH} (hq : s.sh h = some q) (ho : o < vat q.lens g) : (∃ i, ∃ hi : i < s.L.length, endsB h g o s.L[i] = true) ∧ ∀ i, (hi : i < s.L.length) → endsB h g o s.L[i] = true → (∀ j, (hj : j < i) → endsB h g o (s.L[j]'(by omega)) = false) → s.L[i].has h g o := by
  rw [hg.lens _ _ hq] at ho
  obtain ⟨i0, hi0, a, b, c, d⟩ := has_ex hg.ok ho
  have hy0 : endsB h g o s.L[i0] = true := by unfold endsB; simp [a, b, d]
  refine ⟨⟨i0, hi0, hy0⟩, fun i hi hy hf => ?_⟩
  have hle : i ≤ i0 := by
    rcases Nat.lt_or_ge i0 i with hl | hl
    · rw [hf i0 hl] at hy0; cases hy0
    · exact hl
  unfold endsB at hy
  simp only [Bool.and_eq_true, decide_eq_true_eq] at hy
  obtain ⟨h1, h2, h3⟩ := hy
  have h2' : s.L[i].seg = g := by omega
  rcases Nat.lt_or_ge i i0 with hl | hl
  · have := okL_off hg.ok hl hi0 (by rw [h1, a]) (by rw [h2', b])
    omega
  · obtain rfl : i = i0 := by omega
    exact ⟨a, b, c, d⟩
set_option maxHeartbeats 6400000 in
theorem fplace_any {w : World} {f : FA} {s : PF} {T : Nat} (hst : StAt w f s T) (hg : s.good) (hL : s.L.length ≤ 1000000) (h g : Int) (hh : in64 h) {o : Nat} (ho : o < 18446744073709551616) :
    Calls Try.prog 15 #[.pointer (some ⟨f.b, 0, none⟩), .int .i64 h, .int .i64 g, .int .u64 (o : Int)] w (PTold w s h g o) := by
  obtain ⟨W1, hW1⟩ : ∃ W, w.alloc (.cells #[.int .i64 h] 3) = W := ⟨_, rfl⟩
  obtain ⟨W2, hW2⟩ : ∃ W, W1.alloc (.cells #[.int .i64 g] 3) = W := ⟨_, rfl⟩
  obtain ⟨W3, hW3⟩ : ∃ W, W2.alloc (.cells #[.int .u64 (o : Int)] 27) = W := ⟨_, rfl⟩
  have M3 : Hid (Mods Nil w W3) := by rw [← hW3, ← hW2, ← hW1]; exact Lib.hid ((((Mods.refl Nil w).alloc _).alloc _).alloc _)
  have B5 : Hid (Blk W3 w.heap.size 3 #[.int .i64 h]) := by subst hW3; subst hW2; subst hW1; exact Lib.hid (((Blk.new w _ _).alloc _).alloc _)
  have B6 : Hid (Blk W3 W1.heap.size 3 #[.int .i64 g]) := by subst hW3; subst hW2; exact Lib.hid ((Blk.new W1 _ _).alloc _)
  have B7 : Hid (Blk W3 W2.heap.size 27 #[.int .u64 (o : Int)]) := by subst hW3; exact Lib.hid (Blk.new W2 _ _)
  have H3 := Lib.hid (hst.nil M3.out)
  have HG := Lib.hid hg
  have d0 := H3.out.cells.1
  have bl := H3.out.blk.lt
  have e0 : ∀ V, Mods Nil W3 V → V.cell? ⟨f.b, 0, none⟩ = some (.map (some f.m1)) := fun V hV => (World.cell?_of_block (hV.block f.b bl (fun h => h))).trans d0
  have e1 : ∀ V, Mods Nil W3 V → V.cell? ⟨w.heap.size, 0, none⟩ = some (.int .i64 h) := fun V hV => (B5.out.mods hV (fun h => h)).oneV.1
  have HPR : Hid (∀ e w', (placeE s h g o ≠ 0 → e = .returned (.tuple #[.int .u64 0, .int .i64 (placeE s h g o)])) → (placeE s h g o = 0 → ∃ i, ∃ hi : i < s.L.length, s.L[i].has h g.toNat o ∧ e = .returned (.tuple #[.int .u64 ((s.L[i].pos + (o - s.L[i].off) : Nat) : Int), .int .i64 0])) → Mods Nil w w' → PTold w s h g o e w') := Lib.hid (fun e w' a b c => ⟨a, b, c⟩)
  clear d0 bl hst hg
  cases hq : s.sh h with
  | none =>
    have hpe : placeE s h g o = 30 := by unfold placeE; rw [hq]
    rw [hpe] at HPR
    have e2 := miss_sh H3.out hh hq
    unfold zeroS at e2
    clear hq hpe
    go_enter Try.func15, Try.ntmps15
    go_wp2_with fail
    refine hw_region (S := fun V => Mods Nil W3 V) 12 (by kernel_rfl) rfl ?_
    refine hw_reads 0 9 3 (by kernel_rfl) (fun _ _ _ _ _ h => h) ((Mods.refl Nil W3).drew) ?_
    simp only [List.drop_zero, List.take_succ_cons, List.take_zero]
    repeat (refine hw_op (by rfl) (v := ?_) ?_ ?_; rotate_left; (focus (intro V hV; go_simp; try with_reducible rfl)); simp only [Act.put, List.setIfInBounds_toArray, List.set_cons_zero, List.set_cons_succ])
    refine hw_nil ?_
    refine hw_new 9 1 rfl rfl (by kernel_rfl) (by kernel_rfl) rfl rfl rfl rfl rfl rfl (by decide) (by simp) rfl (sh_zero _) rfl rfl (by simp [Value.oneCell']) (by kernel_rfl) rfl ((Mods.refl Nil W3).drew) ?_
    intro W4 b4 m4 s4
    refine hw_one 11 0 rfl (by kernel_rfl) (by rfl) (v := .bool false) (w' := W4) ?_ m4.of_drew ?_
    · go_simp
    simp only [List.getElem_toArray, List.getElem_cons_succ, List.getElem_cons_zero, Act.put, List.setIfInBounds_toArray, List.set_cons_zero, List.set_cons_succ]
    refine hw_done (by kernel_rfl) ?_
    have M4 := Lib.hid m4.of_drew
    have hg3 : W3.drew.heap.size = W3.heap.size := rfl
    rw [hg3] at b4 ⊢
    have B4 := Lib.hid b4
    clear b4 m4 s4 hg3 e0 e1 e2
    go_wp2_with fail
    go_ret2
    exact HPR.out _ _ (fun _ => rfl) (fun h => absurd h (by decide)) (M3.out.trans M4.out)
  | some q =>
    obtain ⟨A2, m, d, hm, hown, hlk⟩ := look_sh H3.out hh hq
    obtain ⟨sg, hsg⟩ : ∃ sg, q.segs = sg := ⟨_, rfl⟩
    obtain ⟨fin, hfin⟩ : ∃ fin, q.final = fin := ⟨_, rfl⟩
    have e2 : ∀ V, Mods Nil W3 V → (Instr.lookup 57 (.map (some f.m1)) (.int .i64 h) true).run Try.prog V = .ok (.tuple #[.agg #[.int .i64 h, .int .i64 sg, .slice A2 m d, .bool fin], .bool true]) V := fun V hV => by
      have := (hlk V hV).1
      unfold shV at this
      rw [hsg, hfin] at this
      exact this
    have HM := Lib.hid hm
    have HSL := Lib.hid (own_sl hown)
    have hpe : placeE s h g o = if g < 0 ∨ sg ≤ g then 30 else if vat q.lens g.toNat ≤ o then 36 else 0 := by unfold placeE; rw [hq, ← hsg]
    have HQ := Lib.hid hq
    clear hlk hm hown hsg hfin hq
    by_cases hg0 : g < 0
    · rw [if_pos (.inl hg0)] at hpe
      rw [hpe] at HPR
      clear hpe
      go_enter Try.func15, Try.ntmps15
      go_wp2_with fail
      refine hw_region (S := fun V => Mods Nil W3 V) 12 (by kernel_rfl) rfl ?_
      refine hw_reads 0 9 3 (by kernel_rfl) (fun _ _ _ _ _ h => h) ((Mods.refl Nil W3).drew) ?_
      simp only [List.drop_zero, List.take_succ_cons, List.take_zero]
      repeat (refine hw_op (by rfl) (v := ?_) ?_ ?_; rotate_left; (focus (intro V hV; go_simp; try with_reducible rfl)); simp only [Act.put, List.setIfInBounds_toArray, List.set_cons_zero, List.set_cons_succ])
      refine hw_nil ?_
      refine hw_new 9 1 rfl rfl (by kernel_rfl) (by kernel_rfl) rfl rfl rfl rfl rfl rfl (by decide) (by simp) rfl (sh_zero _) rfl rfl (by simp [Value.oneCell']) (by kernel_rfl) rfl ((Mods.refl Nil W3).drew) ?_
      intro W4 b4 m4 s4
      refine hw_one 11 0 rfl (by kernel_rfl) (by rfl) (v := .bool true) (w' := W4) ?_ m4.of_drew ?_
      · go_simp
      simp only [List.getElem_toArray, List.getElem_cons_succ, List.getElem_cons_zero, Act.put, List.setIfInBounds_toArray, List.set_cons_zero, List.set_cons_succ]
      refine hw_done (by kernel_rfl) ?_
      have M4 := Lib.hid m4.of_drew
      have hg3 : W3.drew.heap.size = W3.heap.size := rfl
      rw [hg3] at b4 ⊢
      have B4 := Lib.hid b4
      clear b4 m4 s4 hg3 e0 e1 e2
      have y6 : W4.cell? ⟨W1.heap.size, 0, none⟩ = some (.int .i64 g) := (B6.out.mods M4.out (fun h => h)).oneV.1
      have z1 : W4.cell? ⟨W3.heap.size, 1, none⟩ = some (.int .i64 sg) := B4.out.cell 1
      go_wp2_with fail
      go_ret2
      exact HPR.out _ _ (fun _ => rfl) (fun h => absurd h (by decide)) (M3.out.trans M4.out)
    · have hg0I : 0 ≤ g := by omega
      by_cases hgs : sg ≤ g
      · rw [if_pos (.inr hgs)] at hpe
        rw [hpe] at HPR
        clear hpe
        go_enter Try.func15, Try.ntmps15
        go_wp2_with fail
        refine hw_region (S := fun V => Mods Nil W3 V) 12 (by kernel_rfl) rfl ?_
        refine hw_reads 0 9 3 (by kernel_rfl) (fun _ _ _ _ _ h => h) ((Mods.refl Nil W3).drew) ?_
        simp only [List.drop_zero, List.take_succ_cons, List.take_zero]
        repeat (refine hw_op (by rfl) (v := ?_) ?_ ?_; rotate_left; (focus (intro V hV; go_simp; try with_reducible rfl)); simp only [Act.put, List.setIfInBounds_toArray, List.set_cons_zero, List.set_cons_succ])
        refine hw_nil ?_
        refine hw_new 9 1 rfl rfl (by kernel_rfl) (by kernel_rfl) rfl rfl rfl rfl rfl rfl (by decide) (by simp) rfl (sh_zero _) rfl rfl (by simp [Value.oneCell']) (by kernel_rfl) rfl ((Mods.refl Nil W3).drew) ?_
        intro W4 b4 m4 s4
        refine hw_one 11 0 rfl (by kernel_rfl) (by rfl) (v := .bool true) (w' := W4) ?_ m4.of_drew ?_
        · go_simp
        simp only [List.getElem_toArray, List.getElem_cons_succ, List.getElem_cons_zero, Act.put, List.setIfInBounds_toArray, List.set_cons_zero, List.set_cons_succ]
        refine hw_done (by kernel_rfl) ?_
        have M4 := Lib.hid m4.of_drew
        have hg3 : W3.drew.heap.size = W3.heap.size := rfl
        rw [hg3] at b4 ⊢
        have B4 := Lib.hid b4
        clear b4 m4 s4 hg3 e0 e1 e2
        have y6 : W4.cell? ⟨W1.heap.size, 0, none⟩ = some (.int .i64 g) := (B6.out.mods M4.out (fun h => h)).oneV.1
        have z1 : W4.cell? ⟨W3.heap.size, 1, none⟩ = some (.int .i64 sg) := B4.out.cell 1
        go_wp2_with fail
        go_ret2
        exact HPR.out _ _ (fun _ => rfl) (fun h => absurd h (by decide)) (M3.out.trans M4.out)
      · have hgsI : g < sg := by omega
        obtain ⟨gn, rfl⟩ : ∃ gn : Nat, g = (gn : Int) := ⟨g.toNat, by omega⟩
        rw [if_neg (by omega), Int.toNat_natCast] at hpe
        obtain ⟨vl, hvl⟩ : ∃ vl, vat q.lens gn = vl := ⟨_, rfl⟩
        rw [hvl] at hpe
        by_cases hov : vl ≤ o
        · rw [if_pos hov] at hpe
          rw [hpe] at HPR
          have hovI : (vl : Int) ≤ (o : Int) := by omega
          clear hpe
          go_enter Try.func15, Try.ntmps15
          go_wp2_with fail
          refine hw_region (S := fun V => Mods Nil W3 V) 12 (by kernel_rfl) rfl ?_
          refine hw_reads 0 9 3 (by kernel_rfl) (fun _ _ _ _ _ h => h) ((Mods.refl Nil W3).drew) ?_
          simp only [List.drop_zero, List.take_succ_cons, List.take_zero]
          repeat (refine hw_op (by rfl) (v := ?_) ?_ ?_; rotate_left; (focus (intro V hV; go_simp; try with_reducible rfl)); simp only [Act.put, List.setIfInBounds_toArray, List.set_cons_zero, List.set_cons_succ])
          refine hw_nil ?_
          refine hw_new 9 1 rfl rfl (by kernel_rfl) (by kernel_rfl) rfl rfl rfl rfl rfl rfl (by decide) (by simp) rfl (sh_zero _) rfl rfl (by simp [Value.oneCell']) (by kernel_rfl) rfl ((Mods.refl Nil W3).drew) ?_
          intro W4 b4 m4 s4
          refine hw_one 11 0 rfl (by kernel_rfl) (by rfl) (v := .bool true) (w' := W4) ?_ m4.of_drew ?_
          · go_simp
          simp only [List.getElem_toArray, List.getElem_cons_succ, List.getElem_cons_zero, Act.put, List.setIfInBounds_toArray, List.set_cons_zero, List.set_cons_succ]
          refine hw_done (by kernel_rfl) ?_
          have M4 := Lib.hid m4.of_drew
          have hg3 : W3.drew.heap.size = W3.heap.size := rfl
          rw [hg3] at b4 ⊢
          have B4 := Lib.hid b4
          clear b4 m4 s4 hg3 e0 e1 e2
          have y6 : W4.cell? ⟨W1.heap.size, 0, none⟩ = some (.int .i64 (gn : Int)) := (B6.out.mods M4.out (fun h => h)).oneV.1
          have z1 : W4.cell? ⟨W3.heap.size, 1, none⟩ = some (.int .i64 sg) := B4.out.cell 1
          go_wp2_with fail
          clear y6 z1
          have HAT2 : Hid (∀ V, Mods Nil W4 V → Calls Try.prog 25 #[.slice A2 m d, .int .i64 (gn : Int)] V fun e V' => e = .returned (.int .u64 (vl : Int)) ∧ Mods Nil W4 V') := Lib.hid (fun V hV => (vat_nat V HM.out (HSL.out.mods (M4.out.trans hV) (fun _ _ h => h)) gn).mono fun e V' h => ⟨by rw [h.1, hvl], h.2 ▸ hV⟩)
          have k5 : ∀ V, Mods Nil W4 V → V.cell? ⟨W2.heap.size, 0, none⟩ = some (.int .u64 (o : Int)) := fun V hV => (B7.out.mods (M4.out.trans hV) (fun h => h)).oneV.1
          have k6 : ∀ V, Mods Nil W4 V → V.cell? ⟨W1.heap.size, 0, none⟩ = some (.int .i64 (gn : Int)) := fun V hV => (B6.out.mods (M4.out.trans hV) (fun h => h)).oneV.1
          have k7 : ∀ V, Mods Nil W4 V → V.cell? ⟨W3.heap.size, 2, none⟩ = some (.slice A2 m d) := fun V hV => (B4.out.mods hV (fun h => h)).cell 2
          refine gq_region (by kernel_rfl) (by kernel_rfl) ?_
          try simp only [Act.put, List.setIfInBounds_toArray, List.set_cons_zero, List.set_cons_succ]
          repeat (first
            | go_big_quiet_skip
            | (go_big_quiet_want; first
                | (refine gq_call HAT2.out ?_ ?_; (focus (intro V; go_simp; done)); go_big_quiet_on)
                | (refine gq_op (v := ?_) ?_ ?_; rotate_left; (focus (intro V hV; go_simp; try with_reducible rfl)); go_big_quiet_on))
              simp only [Act.put, List.setIfInBounds_toArray, List.set_cons_zero, List.set_cons_succ])
          refine wpQuiet_nil ?_
          intro V hV
          have HV := Lib.hid (M3.out.trans (M4.out.trans hV))
          clear hV k5 k6 k7
          go_wp2_with fail
          go_ret2
          exact HPR.out _ _ (fun _ => rfl) (fun h => absurd h (by decide)) HV.out
        · rw [if_neg hov] at hpe
          rw [hpe] at HPR
          have hovI : (o : Int) < (vl : Int) := by omega
          have hovJ : decide (vl ≤ o) = false := by simp; omega
          obtain ⟨hex, hfh⟩ := first_has HG.out HQ.out (show o < vat q.lens gn by rw [hvl]; omega)
          have HFH := Lib.hid hfh
          have HIX := Lib.hid (fun V (hV : Mods Nil W3 V) => spindex_any V (f := 27) (u1 := .pointer (some ⟨w.heap.size, 0, none⟩)) (u2 := .pointer (some ⟨W1.heap.size, 0, none⟩)) (u3 := .pointer (some ⟨W2.heap.size, 0, none⟩)) (enters Try.func27 (by kernel_rfl) (by rfl)) (H3.out.nil hV).spans hL (endsB h gn o)
            (fun i V' hi hV' => place1_any s.L[i] ((B5.out.mods hV (fun h => h)).mods hV' (fun h => h)) ((B6.out.mods hV (fun h => h)).mods hV' (fun h => h)) ((B7.out.mods hV (fun h => h)).mods hV' (fun h => h)) (Nat.lt_of_le_of_lt (span_le HG.out hi) HG.out.fit)) hex)
          have hpos : 0 < s.L.length := by obtain ⟨i, h, _⟩ := hex; omega
          obtain ⟨sb, sc, hsv, -⟩ := span_at H3.out.spans hpos
          have HSV := Lib.hid hsv
          clear hpe hex hfh hpos hsv
          go_enter Try.func15, Try.ntmps15
          go_wp2_with fail
          refine hw_region (S := fun V => Mods Nil W3 V) 12 (by kernel_rfl) rfl ?_
          refine hw_reads 0 9 3 (by kernel_rfl) (fun _ _ _ _ _ h => h) ((Mods.refl Nil W3).drew) ?_
          simp only [List.drop_zero, List.take_succ_cons, List.take_zero]
          repeat (refine hw_op (by rfl) (v := ?_) ?_ ?_; rotate_left; (focus (intro V hV; go_simp; try with_reducible rfl)); simp only [Act.put, List.setIfInBounds_toArray, List.set_cons_zero, List.set_cons_succ])
          refine hw_nil ?_
          refine hw_new 9 1 rfl rfl (by kernel_rfl) (by kernel_rfl) rfl rfl rfl rfl rfl rfl (by decide) (by simp) rfl (sh_zero _) rfl rfl (by simp [Value.oneCell']) (by kernel_rfl) rfl ((Mods.refl Nil W3).drew) ?_
          intro W4 b4 m4 s4
          refine hw_one 11 0 rfl (by kernel_rfl) (by rfl) (v := .bool true) (w' := W4) ?_ m4.of_drew ?_
          · go_simp
          simp only [List.getElem_toArray, List.getElem_cons_succ, List.getElem_cons_zero, Act.put, List.setIfInBounds_toArray, List.set_cons_zero, List.set_cons_succ]
          refine hw_done (by kernel_rfl) ?_
          have M4 := Lib.hid m4.of_drew
          have hg3 : W3.drew.heap.size = W3.heap.size := rfl
          rw [hg3] at b4 ⊢
          have B4 := Lib.hid b4
          clear b4 m4 s4 hg3 e0 e1 e2
          have y6 : W4.cell? ⟨W1.heap.size, 0, none⟩ = some (.int .i64 (gn : Int)) := (B6.out.mods M4.out (fun h => h)).oneV.1
          have z1 : W4.cell? ⟨W3.heap.size, 1, none⟩ = some (.int .i64 sg) := B4.out.cell 1
          go_wp2_with fail
          clear y6 z1
          have HAT2 : Hid (∀ V, Mods Nil W4 V → Calls Try.prog 25 #[.slice A2 m d, .int .i64 (gn : Int)] V fun e V' => e = .returned (.int .u64 (vl : Int)) ∧ Mods Nil W4 V') := Lib.hid (fun V hV => (vat_nat V HM.out (HSL.out.mods (M4.out.trans hV) (fun _ _ h => h)) gn).mono fun e V' h => ⟨by rw [h.1, hvl], h.2 ▸ hV⟩)
          have k5 : ∀ V, Mods Nil W4 V → V.cell? ⟨W2.heap.size, 0, none⟩ = some (.int .u64 (o : Int)) := fun V hV => (B7.out.mods (M4.out.trans hV) (fun h => h)).oneV.1
          have k6 : ∀ V, Mods Nil W4 V → V.cell? ⟨W1.heap.size, 0, none⟩ = some (.int .i64 (gn : Int)) := fun V hV => (B6.out.mods (M4.out.trans hV) (fun h => h)).oneV.1
          have k7 : ∀ V, Mods Nil W4 V → V.cell? ⟨W3.heap.size, 2, none⟩ = some (.slice A2 m d) := fun V hV => (B4.out.mods hV (fun h => h)).cell 2
          refine gq_region (by kernel_rfl) (by kernel_rfl) ?_
          try simp only [Act.put, List.setIfInBounds_toArray, List.set_cons_zero, List.set_cons_succ]
          repeat (first
            | go_big_quiet_skip
            | (go_big_quiet_want; first
                | (refine gq_call HAT2.out ?_ ?_; (focus (intro V; go_simp; done)); go_big_quiet_on)
                | (refine gq_op (v := ?_) ?_ ?_; rotate_left; (focus (intro V hV; go_simp; try with_reducible rfl)); go_big_quiet_on))
              simp only [Act.put, List.setIfInBounds_toArray, List.set_cons_zero, List.set_cons_succ])
          refine wpQuiet_nil ?_
          intro V hV
          have HV := Lib.hid (M4.out.trans hV)
          clear hV k5 k6 k7
          have j1 := (H3.out.nil HV.out).cells.2.1
          rw [HSV.out] at j1
          rw [HSV.out] at HIX
          have BLK := Lib.hid (B4.out.mods (show Mods Nil W4 W4 from Mods.refl _ _) (fun h => h))
          go_wp2_with (go_at_call 26; refine (HIX.out V HV.out).mono ?_; rintro e w5 ⟨i, hi, rfl, hy, hfi, m5⟩; have N5 := Lib.hid (HV.out.trans m5); have HHAS := Lib.hid (HFH.out i hi hy hfi); clear hy hfi m5; have y1 := (H3.out.nil N5.out).cells.2.1; rw [HSV.out] at y1; have hsl5 := (H3.out.nil N5.out).spans; rw [HSV.out] at hsl5; obtain ⟨q0, q1, q2, q3, q4⟩ := span_lit hsl5 hi; clear hsl5; have hiI : (i : Int) < (s.L.length : Int) := (by omega); have HSLE := Lib.hid (span_le HG.out hi); have HAT := HHAS.out; obtain ⟨sp, hsp⟩ : ∃ sp, s.L[i] = sp := ⟨_, rfl⟩; rw [hsp] at q0 q1 q2 q3 q4 HSLE HAT; have HSP := Lib.hid hsp; obtain ⟨-, -, ha3, ha4⟩ := HAT; have hps : sp.pos + sp.many ≤ s.n := (by rw [← HSP.out]; have h1 := (HG.out.ok i hi).1; have h2 := tot_take_succ s.L hi; have h3 := tot_take_le s.L (i + 1); rw [HG.out.n, h1]; omega); have hfit := HG.out.fit; have hws : IntKind.u64.wrap ((o : Int) - (sp.off : Int)) = ((o - sp.off : Nat) : Int) := (by rw [IntKind.wrap_u64]; omega); have hwa : IntKind.u64.wrap ((sp.pos : Int) + ((o - sp.off : Nat) : Int)) = ((sp.pos + (o - sp.off) : Nat) : Int) := (by rw [IntKind.wrap_u64]; omega); obtain ⟨W6, hW6⟩ : ∃ W, w5.alloc (.cells #[.int .u64 (sp.pos : Int), .int .i64 sp.sh, .int .i64 (sp.seg : Int), .int .u64 (sp.off : Int), .int .u64 (sp.many : Int)] 47) = W := ⟨_, rfl⟩; have N6 : Hid (Mods Nil W3 W6) := (by rw [← hW6]; exact Lib.hid (N5.out.alloc _)); have y7 := (B7.out.mods N6.out (fun h => h)).oneV.1; have z0 : W6.cell? ⟨w5.heap.size, 0, none⟩ = some (.int .u64 (sp.pos : Int)) := (by rw [← hW6]; exact (Blk.new w5 _ _).cell 0); have z3 : W6.cell? ⟨w5.heap.size, 3, none⟩ = some (.int .u64 (sp.off : Int)) := (by rw [← hW6]; exact (Blk.new w5 _ _).cell 3); clear hsp ha3 ha4 hps hfit)
          go_ret2
          exact HPR.out _ _ (fun h => absurd rfl h) (fun _ => ⟨i, hi, by simpa using HHAS.out, by rw [HSP.out]; rfl⟩) (M3.out.trans N6.out)
end Go.Proofs.Ytkodmgnagfolpaa
end
