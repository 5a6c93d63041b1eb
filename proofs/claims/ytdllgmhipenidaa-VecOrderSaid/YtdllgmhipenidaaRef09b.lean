/- The reference of layer 9: Cut, Less, Least. -/
import Derived.Test.YtdllgmhipenidaaRef09a
import Derived.Test.YtdllgmhipenidaaVec7
namespace Go.Proofs.Ytdllgmhipenidaa
set_option maxRecDepth 100000
open Go.RowKit
set_option linter.unusedVariables false
set_option linter.unusedSimpArgs false

def slLen (v : Value) : Nat := match v with | .slice _ n _ => n | _ => 0
theorem isCut_of_last {xs : List Nat} {k : Nat} (hk : xs.length = k + 1) (h : vat xs k ≠ 0) : isCut xs := fun j hj => by
  obtain rfl : j = k := by omega
  exact h
theorem vat_take_all {xs : List Nat} {j : Nat} (hj : j ≤ xs.length) : (xs.take j).length = j := by rw [List.length_take]; omega
theorem take_snoc_vat {xs : List Nat} {j : Nat} (hj : j < xs.length) : xs.take (j + 1) = xs.take j ++ [vat xs j] := by rw [List.take_succ_eq_append_getElem hj, vat_lt hj]
/-- A nought more. -/
theorem cut_take_zero {xs : List Nat} {j : Nat} (hj : j < xs.length) (h : vat xs j = 0) : cut (xs.take (j + 1)) = cut (xs.take j) := cut_eq (fun i => by
  by_cases hi : i < j
  · rw [vat_take (by omega), vat_take hi]
  · rw [vat_take_ge (k := j) (by omega)]
    by_cases e : i = j
    · rw [e, vat_take (by omega)]; exact h
    · exact vat_take_ge (by omega))
theorem cut_take_more {xs : List Nat} {j : Nat} (hj : j < xs.length) (h : vat xs j ≠ 0) : cut (xs.take (j + 1)) = xs.take (j + 1) :=
  cut_ext (cut_isCut _) (isCut_of_last (vat_take_all (by omega)) (by rw [vat_take (by omega)]; exact h)) (fun i => vat_cut _ i)
set_option maxHeartbeats 3200000 in
theorem r9cut_any (w : World) {n c : Nat} {A : Option Addr} {xs : List Nat} (hn : xs.length = n) (hl : n ≤ 1000000) (hs : Sl w A c (nums xs)) :
    Calls Try.prog 54 #[.slice A n c] w fun e w' => ∃ v, e = .returned v ∧ w'.ownsRow w.heap.size 37 1 v (cut xs).length (nums (cut xs)) ∧ Mods Nil w w' := by
  obtain ⟨i0, hi, hz0, hz1, hz2⟩ := info_parts infoV64
  have HS := Lib.hid hs
  have HN := Lib.hid hn
  clear hs hn
  go_enter Try.func54, Try.ntmps54
  go_wp2
  go_loopw [3, 4] (fun v x wr => ∃ (j k c3 : Nat) (A3 : Option Addr) (M : List Nat), j ≤ n ∧ x = .int .i64 (j : Int) ∧ v = .slice A3 k c3 ∧ M.length = k ∧ k ≤ j ∧ M = cut (xs.take j) ∧ wr.ownsRow w.heap.size 37 1 (.slice A3 k c3) k (nums M) ∧ Mods Nil w wr) (fun _ x _ => n - (intOf x).toNat)
  case atStart => exact ⟨0, 0, 0, none, [], Nat.zero_le _, rfl, rfl, rfl, Nat.le_refl _, rfl, World.ownsRow_nil _ _ _ _, Mods.refl _ _⟩
  case round =>
    obtain ⟨j, k, c3, A3, M, hj, rfl, rfl, hk, hkj, hM, ho, hmo⟩ := hrel
    have HK := Lib.hid hk
    have HM := Lib.hid hM
    have HO := Lib.hid ho
    have HMO := Lib.hid hmo
    clear hk hM ho hmo
    by_cases hlt : j < n
    · have hjI : (j : Int) < (n : Int) := by omega
      have HLT := Lib.hid (show j < xs.length by rw [HN.out]; exact hlt)
      obtain ⟨b, off, rfl, hb, hc⟩ := sl_num (HS.out.mods HMO.out (fun _ _ h => h)) (j := j) (by rw [HN.out]; exact hlt)
      obtain ⟨y, hy⟩ : ∃ y, vat xs j = y := ⟨_, rfl⟩
      rw [hy] at hc
      have HY := Lib.hid hy
      clear hy
      by_cases h0 : y = 0
      · subst h0
        clear hb
        go_wp2_with fail
        exact ⟨⟨j + 1, k, c3, A3, M, by omega, by go_num, rfl, HK.out, by omega, by rw [HM.out, cut_take_zero HLT.out HY.out], HO.out, HMO.out⟩, by simp [intOf]; omega⟩
      · have hyb : ((y : Int) == 0) = false := by rw [beq_eq_false_iff_ne]; omega
        have HY0 := Lib.hid h0
        clear h0
        go_wp2_with fail
        have HVM := Lib.hid (fun i => show vat M i = vat (xs.take j) i by rw [HM.out, vat_cut])
        go_loopw [3] (fun v wr2 => ∃ (k2 c4 : Nat) (A4 : Option Addr) (M2 : List Nat), v = .slice A4 k2 c4 ∧ M2.length = k2 ∧ k2 ≤ j ∧ (∀ i, vat M2 i = vat (xs.take j) i) ∧ wr2.ownsRow w.heap.size 37 1 (.slice A4 k2 c4) k2 (nums M2) ∧ Mods Nil w wr2) (fun v _ => j - slLen v)
        case atStart => exact ⟨k, c3, A3, M, rfl, HK.out, hkj, HVM.out, HO.out, HMO.out⟩
        case round =>
          clear HO HMO hb hc HVM
          obtain ⟨k2, c4, A4, M2, rfl, hk2, hkj2, hv2, ho2, hmo2⟩ := hrel
          have HK2 := Lib.hid hk2
          have HV2 := Lib.hid hv2
          have HO2 := Lib.hid ho2
          have HMO2 := Lib.hid hmo2
          clear hk2 hv2 ho2 hmo2
          by_cases hlt2 : k2 < j
          · have hlt2I : (k2 : Int) < (j : Int) := by omega
            go_wp2_with (at_builtin; refine wpList_append_sl _ rfl _ _ 83 rfl w.heap.size 37 i0 (.int .u64 0) 8 Try.underlying83 hi hz0 hz1 hz2 rfl _ k2 _ rfl (HO2.out.alloc _) (some ⟨wr.heap.size, 0, none⟩) 1 1 [.int .u64 0] rfl rfl (build_at (n := 1) (by simp) rfl rfl (by decide)) (by simp [Value.oneCell']) (by omega) (by unfold maxLen; omega) (HMO2.out.alloc _).size ?_; intro v' w3 hown hgrow _; obtain ⟨A5, c5, rfl, e5, s5, b5⟩ := own_slice hown; have O3 := Lib.hid hown; have M3 := Lib.hid (show Mods Nil w w3 from (HMO2.out.alloc _).nil_trans ((Mods.refl (fun q => (Value.slice A4 k2 c4).ownBlock = some q) _).grown hgrow (fun q hq _ => hq)) (fun i h => (HO2.out.lt i h).1)); clear hown hgrow e5 s5 b5)
            exact ⟨⟨k2 + 1, c5, A5, M2 ++ [0], rfl, by rw [List.length_append, HK2.out]; rfl, by omega, fun i => by
              rw [vat_append, HK2.out]
              by_cases hi : i < k2
              · rw [if_pos hi]; exact HV2.out i
              · rw [if_neg hi, ← HV2.out i, vat_ge (xs := M2) (by rw [HK2.out]; omega)]
                exact vat_replicate 1 _, by rw [nums_append]; exact O3.out, M3.out⟩, by simp [slLen]; omega⟩
          · obtain rfl : k2 = j := by omega
            obtain ⟨b, off, hA, hb, hc⟩ := sl_num (HS.out.mods HMO2.out (fun _ _ h => h)) (j := k2) HLT.out
            injection hA with hA
            injection hA with hA1 hA2
            subst hA1; subst hA2
            rw [HY.out] at hc
            have HEQ := Lib.hid (show M2 = xs.take k2 from vat_ext (by rw [HK2.out, vat_take_all (Nat.le_of_lt HLT.out)]) HV2.out)
            clear hb
            go_wp2_with (at_builtin; refine wpList_append_sl _ rfl _ _ 83 rfl w.heap.size 37 i0 (.int .u64 0) 8 Try.underlying83 hi hz0 hz1 hz2 rfl _ k2 _ rfl (HO2.out.alloc _) (some ⟨wr.heap.size, 0, none⟩) 1 1 [.int .u64 (y : Int)] rfl rfl (build_at (n := 1) (by simp) rfl rfl (by decide)) (by simp [Value.oneCell']) (by omega) (by unfold maxLen; omega) (HMO2.out.alloc _).size ?_; intro v' w3 hown hgrow _; obtain ⟨A5, c5, rfl, e5, s5, b5⟩ := own_slice hown; have O3 := Lib.hid hown; have M3 := Lib.hid (show Mods Nil w w3 from (HMO2.out.alloc _).nil_trans ((Mods.refl (fun q => (Value.slice A4 k2 c4).ownBlock = some q) _).grown hgrow (fun q hq _ => hq)) (fun i h => (HO2.out.lt i h).1)); clear hown hgrow e5 s5 b5)
            exact ⟨⟨k2 + 1, k2 + 1, c5, A5, xs.take (k2 + 1), by omega, by go_num, rfl, vat_take_all HLT.out, Nat.le_refl _, by rw [cut_take_more HLT.out (by rw [HY.out]; exact HY0.out)], by rw [take_snoc_vat HLT.out, nums_append, ← HEQ.out, HY.out]; exact O3.out, M3.out⟩, by simp [intOf]; omega⟩
    · obtain rfl : j = n := by omega
      have hfull : xs.take j = xs := List.take_of_length_le (by rw [HN.out]; exact Nat.le_refl _)
      rw [hfull] at HM
      clear hfull
      go_wp2
      go_ret
      exact ⟨_, rfl, by rw [← HM.out, HK.out]; exact HO.out, HMO.out⟩

/-- An operation that reads no memory is taken ahead of all that it doesn't bear on. -/
theorem qt_take9 {P : Program} {l : List Oper} {Q : Exit → Act → World → Prop} {a : Act} {w : World} {v : Value} {o : Oper} (k g : Nat) (hk : l[k]? = some o) (hs : Region.noSelect l.toArray = true) (hf : Region.free .any l.toArray (upto l.toArray k) k = true)
    (hr : (Region.ready .any l.toArray (upto l.toArray k)).contains k = true) (hQ : ∀ c a w, Q (.panic c) (a.put o.dst v) w → Q (.panic c) a w) (hg : Region.wanted o (yielded l.toArray a.tmps) = true) (hv : ∀ w, (execOp a.eval o).run P w = .ok (.value v) w)
    (h : wpAny P .any l.toArray Q g (upto l.toArray (k + 1)) (a.put o.dst v) w) : wpAny P .any l.toArray Q (g + 1) (upto l.toArray k) a w := by
  have hlt : k < l.toArray.size := by
    have := (List.getElem?_eq_some_iff.1 hk).1
    simpa using this
  exact wpAny_take (i := k) (oi := o) (v := v) (by simpa using hk) hs hf hr hQ (.inl ⟨hg, hv⟩) (by rw [upto_set hlt]; exact h)
set_option maxHeartbeats 3200000 in
theorem r9less_any (w : World) {n c m d : Nat} {A B : Option Addr} {xs ys : List Nat} (hn : xs.length = n) (hl : n ≤ 1000000) (hbd : Bd xs) (hs : Sl w A c (nums xs)) (hm : ys.length = m) (hl2 : m ≤ 1000000) (hy : Sl w B d (nums ys)) :
    Calls Try.prog 46 #[.slice A n c, .slice B m d] w (RLess w xs ys) := by
  obtain ⟨i0, hi, hz0, hz1, hz2⟩ := info_parts infoV64
  have HLE := Lib.hid (r9le_any w hm hl2 hy hn hs)
  have HAT := Lib.hid (fun (V : World) (hV : Mods Nil w V) (j : Nat) => r9at_nat V hm (hy.mods hV (fun _ _ h => h)) j)
  have HS := Lib.hid hs
  have HN := Lib.hid hn
  have HBD := Lib.hid hbd
  obtain ⟨r, hr⟩ : ∃ r, leB ys xs = r := ⟨_, rfl⟩
  rw [hr] at HLE
  have HR := Lib.hid hr
  clear hn hm hs hy hbd hr
  cases r with
  | false =>
    go_enter Try.func46, Try.ntmps46
    go_wp2_with (go_at_call 47; refine (HLE.out).mono ?_; rintro e w1 ⟨rfl, m1⟩; have M1 := Lib.hid m1; clear m1)
    go_ret2
    exact ⟨fun _ => rfl, fun h => (by rw [HR.out] at h; cases h), M1.out⟩
  | true =>
    go_enter Try.func46, Try.ntmps46
    go_wp2_with (go_at_call 47; refine (HLE.out).mono ?_; rintro e w1 ⟨rfl, m1⟩; have M1 := Lib.hid m1; clear m1)
    go_loopw [7, 8] (fun v x wr => ∃ (j c3 : Nat) (A3 : Option Addr) (M : List Nat), j ≤ n ∧ x = .int .i64 (j : Int) ∧ v = .slice A3 j c3 ∧ M.length = j ∧ (∀ i, i < j → vat M i = vat xs i - vat ys i) ∧ wr.ownsRow w.heap.size 37 1 (.slice A3 j c3) j (nums M) ∧ Mods Nil w wr) (fun _ x _ => n - (intOf x).toNat)
    case atStart => exact ⟨0, 0, none, [], Nat.zero_le _, rfl, rfl, rfl, fun i h => by omega, World.ownsRow_nil _ _ _ _, M1.out⟩
    case round =>
      clear M1
      obtain ⟨j, c3, A3, M, hj, rfl, rfl, hk, hv, ho, hmo⟩ := hrel
      have HK := Lib.hid hk
      have HV := Lib.hid hv
      have HO := Lib.hid ho
      have HMO := Lib.hid hmo
      clear hk hv ho hmo
      by_cases hlt : j < n
      · have hjI : (j : Int) < (n : Int) := by omega
        obtain ⟨b, off, rfl, hb, hc⟩ := sl_num (HS.out.mods HMO.out (fun _ _ h => h)) (j := j) (by rw [HN.out]; exact hlt)
        obtain ⟨x, hx⟩ : ∃ x, vat xs j = x := ⟨_, rfl⟩
        obtain ⟨y, hyy⟩ : ∃ y, vat ys j = y := ⟨_, rfl⟩
        have hle := leB_iff.1 HR.out j
        have hxb := HBD.out j
        rw [hx, hyy] at hle
        rw [hx] at hxb hc
        obtain ⟨u, hu⟩ : ∃ u, x - y = u := ⟨_, rfl⟩
        have hsub : IntKind.u64.wrap ((x : Int) - (y : Int)) = (u : Int) := by rw [IntKind.wrap_u64]; omega
        have HX := Lib.hid (show vat xs j - vat ys j = u by rw [hx, hyy, hu])
        have HA : Hid (∀ V, Mods Nil wr V → Calls Try.prog 52 #[.slice B m d, .int .i64 (j : Int)] V fun e V' => e = .returned (.int .u64 (y : Int)) ∧ Mods Nil wr V') := Lib.hid (fun V hV => (HAT.out V (HMO.out.trans hV) j).mono fun e V' h => ⟨by rw [h.1, hyy], h.2 ▸ hV⟩)
        have hcV : ∀ V, Mods Nil wr V → V.cell? ⟨b, off + j, none⟩ = some (.int .u64 (x : Int)) := fun V hV => (World.cell?_of_block (hV.block b hb (fun h => h))).trans hc
        clear hx hyy hle hxb hu hb
        go_wp2_with fail
        refine qt_region 12 (by kernel_rfl) rfl ?_
        refine qt_take9 0 11 rfl (by kernel_rfl) (by kernel_rfl) (by kernel_rfl) (fun _ _ _ h => h) (by rfl) (v := ?_) ?_ ?_
        rotate_left
        · intro V
          go_simp
          try with_reducible rfl
        simp only [List.getElem_toArray, List.getElem_cons_succ, List.getElem_cons_zero, Act.put, List.setIfInBounds_toArray, List.set_cons_zero, List.set_cons_succ]
        refine qt_quiet (fun V => Mods Nil wr V) 1 8 3 (by kernel_rfl) ((Mods.refl Nil wr).drew) ?_
        simp only [List.drop_succ_cons, List.drop_zero, List.take_succ_cons, List.take_zero]
        repeat (first
          | go_big_quiet_skip
          | (go_big_quiet_want; first
              | (refine gq_call HA.out ?_ ?_; (focus (intro V; go_simp; done)); go_big_quiet_on)
              | (refine gq_op (v := ?_) ?_ ?_; rotate_left; (focus (intro V hV; go_simp; try with_reducible rfl)); go_big_quiet_on))
            simp only [Act.put, List.setIfInBounds_toArray, List.set_cons_zero, List.set_cons_succ])
        refine wpQuiet_nil ?_
        intro V hV
        refine qt_list 9 3 rfl (by kernel_rfl) ?_
        simp only [List.drop_succ_cons, List.drop_zero]
        have HMV := Lib.hid (HMO.out.trans hV)
        have HOV := Lib.hid (own_mods HO.out hV (fun _ _ h => h))
        clear hcV hV
        go_wp2_with (at_builtin; refine wpList_append_sl _ rfl _ _ 83 rfl w.heap.size 37 i0 (.int .u64 0) 8 Try.underlying83 hi hz0 hz1 hz2 rfl _ j _ rfl (HOV.out.alloc _) (some ⟨V.heap.size, 0, none⟩) 1 1 [.int .u64 (u : Int)] rfl rfl (build_at (n := 1) (by simp) rfl rfl (by decide)) (by simp [Value.oneCell']) (by omega) (by unfold maxLen; omega) (HMV.out.alloc _).size ?_; intro v' w3 hown hgrow _; obtain ⟨A5, c5, rfl, e5, s5, b5⟩ := own_slice hown; have O3 := Lib.hid hown; have M3 := Lib.hid (show Mods Nil w w3 from (HMV.out.alloc _).nil_trans ((Mods.refl (fun q => (Value.slice A3 j c3).ownBlock = some q) _).grown hgrow (fun q hq _ => hq)) (fun i h => (HO.out.lt i h).1)); clear hown hgrow e5 s5 b5)
        exact ⟨⟨j + 1, c5, A5, M ++ [u], by omega, by go_num, rfl, by rw [List.length_append, HK.out]; rfl, fun i hi => by
          rw [vat_append, HK.out]
          by_cases h : i < j
          · rw [if_pos h]; exact HV.out i h
          · obtain rfl : i = j := by omega
            rw [if_neg h, HX.out, Nat.sub_self]
            rfl, by rw [nums_append]; exact O3.out, M3.out⟩, by simp [intOf]; omega⟩
      · obtain rfl : j = n := by omega
        go_wp2_with (go_at_call 54; refine (r9cut_any wr HK.out (by omega) (own_sl HO.out)).mono ?_; rintro e w5 ⟨v5, rfl, o5, m5⟩; have O5 := Lib.hid (own_rebase o5 (HMO.out.size : w.heap.size ≤ wr.heap.size)); have M5 := Lib.hid (HMO.out.trans m5); clear o5 m5)
        go_ret2
        refine ⟨fun h => (by rw [HR.out] at h; cases h), fun _ => ⟨_, rfl, cut M, O5.out, cut_isCut M, fun i => ?_⟩, M5.out⟩
        show vat (cut M) i = vat xs i - vat ys i
        rw [vat_cut]
        by_cases h : i < j
        · exact HV.out i h
        · rw [vat_ge (xs := M) (by rw [HK.out]; omega), vat_ge (xs := xs) (by rw [HN.out]; omega)]
          omega

theorem maxAt_far {l : List RowN} {i : Nat} (h : lenMax l ≤ i) : maxAt (rowsOf l) i = 0 := by
  have := (maxAt_le (l := rowsOf l) (i := i) (k := 0)).2 (fun x hx => by
    simp [rowsOf] at hx
    obtain ⟨r, hr, rfl⟩ := hx
    have := le_lenMax hr
    rw [vat_ge (by omega)]
    exact Nat.le_refl _)
  omega
theorem minAt_le_maxAt (l : List (List Nat)) (i : Nat) : minAt l i ≤ maxAt l i := by
  match l with
  | [] => exact Nat.zero_le _
  | x :: r => exact Nat.le_trans (minAt_le (x := x) (by simp) i) (le_maxAt (by simp) i)
theorem minAt_far {l : List RowN} {i : Nat} (h : lenMax l ≤ i) : minAt (rowsOf l) i = 0 := by
  have := minAt_le_maxAt (rowsOf l) i
  rw [maxAt_far h] at this
  omega

set_option maxHeartbeats 6400000 in
theorem r9min_any (w : World) {n c : Nat} {A : Option Addr} {l : List RowN} (hn : l.length = n) (hl : n ≤ 1000000) (hs : Sl w A c (l.map RowN.val)) (hr : ∀ r ∈ l, r.ok w) :
    Calls Try.prog 56 #[.slice A n c, .bool false] w fun e w' => ∃ v, e = .returned v ∧ CutRow w w' (minAt (rowsOf l)) v ∧ Mods Nil w w' := by
  obtain ⟨i0, hi, hz0, hz1, hz2⟩ := info_parts infoV64
  obtain ⟨N, hN⟩ : ∃ N, lenMax l = N := ⟨_, rfl⟩
  have hN6 : N ≤ 1000000 := by rw [← hN]; exact lenMax_take_le _ (fun r h => (hr r h).le)
  have HLO := Lib.hid (fun (V : World) (hV : Mods Nil w V) => r9longest_any V hn hl (hs.mods hV (fun _ _ h => h)) (fun r h => (hr r h).le))
  rw [hN] at HLO
  have HS := Lib.hid hs
  have HN := Lib.hid hn
  have HR := Lib.hid hr
  have HNN := Lib.hid hN
  have hn0 : 0 < N → 0 < n := fun h => by
    rcases Nat.eq_zero_or_pos n with e | e
    · have : l = [] := List.length_eq_zero_iff.1 (by rw [hn]; exact e)
      subst this
      simp [lenMax] at hN
      omega
    · exact e
  have HN0 := Lib.hid hn0
  clear hn hs hr hN hn0
  go_enter Try.func56, Try.ntmps56
  go_wp2
  go_loopw [5, 6] (fun v x wr => ∃ (j c3 : Nat) (A3 : Option Addr) (M : List Nat), j ≤ N ∧ x = .int .i64 (j : Int) ∧ v = .slice A3 j c3 ∧ M.length = j ∧ (∀ i, i < j → vat M i = minAt (rowsOf l) i) ∧ wr.ownsRow w.heap.size 37 1 (.slice A3 j c3) j (nums M) ∧ Mods Nil w wr) (fun _ x _ => N - (intOf x).toNat)
  case atStart => exact ⟨0, 0, none, [], Nat.zero_le _, rfl, rfl, rfl, fun i h => by omega, World.ownsRow_nil _ _ _ _, Mods.refl _ _⟩
  case round =>
    obtain ⟨j, c3, A3, M, hj, rfl, rfl, hk, hv, ho, hmo⟩ := hrel
    have HK := Lib.hid hk
    have HV := Lib.hid hv
    have HO := Lib.hid ho
    have HMO := Lib.hid hmo
    clear hk hv ho hmo
    by_cases hlt : j < N
    · have hjI : (j : Int) < (N : Int) := by omega
      have hnp : 0 < n := HN0.out (by omega)
      have hnI : (0 : Int) < (n : Int) := by omega
      obtain ⟨b0, off0, rfl, hbl0, hc0⟩ := rowN_at (HS.out.mods HMO.out (fun _ _ h => h)) (j := 0) (by rw [HN.out]; exact hnp)
      rw [Nat.add_zero] at hc0
      have HR0 := HR.out _ (List.getElem_mem (show 0 < l.length by rw [HN.out]; exact hnp))
      have hmin0 : minAt (rowsOf (l.take 1)) j = vat (l[0]'(by rw [HN.out]; exact hnp)).xs j := by
        rw [List.take_succ_eq_append_getElem (show 0 < l.length by rw [HN.out]; exact hnp)]
        rfl
      generalize l[0]'(by rw [HN.out]; exact hnp) = r0 at hc0 HR0 hmin0
      obtain ⟨A0, c0, ys0⟩ := r0
      dsimp only at hc0 hmin0
      obtain ⟨q0, hq0⟩ : ∃ q, ys0.length = q := ⟨_, rfl⟩
      rw [hq0] at hc0
      obtain ⟨x0, hx0⟩ : ∃ x, vat ys0 j = x := ⟨_, rfl⟩
      have HAT0 := Lib.hid (r9at_nat wr hq0 (HR0.sl.mods HMO.out (fun _ _ h => h)) j)
      rw [hx0] at HAT0 hmin0
      have HMIN0 := Lib.hid hmin0
      clear hq0 HR0 hmin0 hx0 hbl0
      go_wp2_with (first
        | (go_at_call 110; refine (HLO.out _ HMO.out).mono ?_; rintro e w1 ⟨rfl, rfl⟩)
        | (go_at_call 52; refine (HAT0.out).mono ?_; rintro e w1 ⟨rfl, rfl⟩))
      go_loopw [7, 8] (fun p x wr2 => ∃ (k y : Nat), 1 ≤ k ∧ k ≤ n ∧ x = .int .i64 (k : Int) ∧ p = .int .u64 (y : Int) ∧ minAt (rowsOf (l.take k)) j = y ∧ wr = wr2) (fun _ x _ => n - (intOf x).toNat)
      case atStart => exact ⟨1, x0, Nat.le_refl _, by omega, rfl, rfl, HMIN0.out, rfl⟩
      case round =>
        clear HMIN0 HAT0 hc0
        obtain ⟨k, y, hk1, hkn, rfl, rfl, hy, rfl⟩ := hrel
        have HY := Lib.hid hy
        clear hy
        by_cases hltk : k < n
        · have hkI : (k : Int) < (n : Int) := by omega
          have hkl : k < l.length := by rw [HN.out]; exact hltk
          obtain ⟨b, off, hA, hbl, hc⟩ := rowN_at (HS.out.mods HMO.out (fun _ _ h => h)) hkl
          injection hA with hA
          injection hA with hA1 hA2
          subst hA1; subst hA2
          have hok := HR.out _ (List.getElem_mem hkl)
          have hst := minAt_take_succ hkl (by omega) j
          generalize l[k] = r at hc hok hst
          obtain ⟨A4, c4, ys⟩ := r
          dsimp only at hc hst
          obtain ⟨q, hq⟩ : ∃ q, ys.length = q := ⟨_, rfl⟩
          rw [hq] at hc
          obtain ⟨z, hz⟩ : ∃ z, vat ys j = z := ⟨_, rfl⟩
          have HATK := Lib.hid (r9at_nat wr hq (hok.sl.mods HMO.out (fun _ _ h => h)) j)
          rw [hz] at HATK hst
          rw [HY.out] at hst
          have HST := Lib.hid hst
          clear hkl hok hst hq hz hbl
          by_cases hb : z < y
          · have hbI : decide ((z : Int) < (y : Int)) = true := by simp; omega
            go_wp2_with (go_at_call 52; refine (HATK.out).mono ?_; rintro e w1 ⟨rfl, rfl⟩)
            exact ⟨⟨k + 1, z, by omega, by omega, by go_num, rfl, by rw [HST.out]; omega, by trivial⟩, by simp [intOf]; omega⟩
          · have hbI : decide ((z : Int) < (y : Int)) = false := by simp; omega
            go_wp2_with (go_at_call 52; refine (HATK.out).mono ?_; rintro e w1 ⟨rfl, rfl⟩)
            exact ⟨⟨k + 1, y, by omega, by omega, by go_num, rfl, by rw [HST.out]; omega, by trivial⟩, by simp [intOf]; omega⟩
        · obtain rfl : k = n := by omega
          have hfull : l.take k = l := List.take_of_length_le (by rw [HN.out]; exact Nat.le_refl _)
          rw [hfull] at HY
          clear hfull
          go_wp2_with (at_builtin; refine wpList_append_sl _ rfl _ _ 83 rfl w.heap.size 37 i0 (.int .u64 0) 8 Try.underlying83 hi hz0 hz1 hz2 rfl _ j _ rfl (HO.out.alloc _) (some ⟨wr.heap.size, 0, none⟩) 1 1 [.int .u64 (y : Int)] rfl rfl (build_at (n := 1) (by simp) rfl rfl (by decide)) (by simp [Value.oneCell']) (by omega) (by unfold maxLen; omega) (HMO.out.alloc _).size ?_; intro v' w3 hown hgrow _; obtain ⟨A5, c5, rfl, e5, s5, b5⟩ := own_slice hown; have O3 := Lib.hid hown; have M3 := Lib.hid (show Mods Nil w w3 from (HMO.out.alloc _).nil_trans ((Mods.refl (fun q => (Value.slice A3 j c3).ownBlock = some q) _).grown hgrow (fun q hq _ => hq)) (fun i h => (HO.out.lt i h).1)); clear hown hgrow e5 s5 b5)
          exact ⟨⟨j + 1, c5, A5, M ++ [y], by omega, by go_num, rfl, by rw [List.length_append, HK.out]; rfl, fun i hi => by
            rw [vat_append, HK.out]
            by_cases h : i < j
            · rw [if_pos h]; exact HV.out i h
            · obtain rfl : i = j := by omega
              rw [if_neg h, HY.out, Nat.sub_self]
              rfl, by rw [nums_append]; exact O3.out, M3.out⟩, by simp [intOf]; omega⟩
    · obtain rfl : j = N := by omega
      go_wp2_with (first
        | (go_at_call 110; refine (HLO.out _ HMO.out).mono ?_; rintro e w1 ⟨rfl, rfl⟩)
        | (go_at_call 54; refine (r9cut_any wr HK.out (by omega) (own_sl HO.out)).mono ?_; rintro e w5 ⟨v5, rfl, o5, m5⟩; have O5 := Lib.hid (own_rebase o5 (HMO.out.size : w.heap.size ≤ wr.heap.size)); have M5 := Lib.hid (HMO.out.trans m5); clear o5 m5))
      go_ret
      refine ⟨_, rfl, ⟨cut M, O5.out, cut_isCut M, fun i => ?_⟩, M5.out⟩
      rw [vat_cut]
      by_cases h : i < j
      · exact HV.out i h
      · rw [vat_ge (xs := M) (by rw [HK.out]; omega), minAt_far (by rw [HNN.out]; omega)]

set_option maxHeartbeats 6400000 in
theorem r9max_any (w : World) {n c : Nat} {A : Option Addr} {l : List RowN} (hn : l.length = n) (hl : n ≤ 1000000) (hs : Sl w A c (l.map RowN.val)) (hr : ∀ r ∈ l, r.ok w) :
    Calls Try.prog 56 #[.slice A n c, .bool true] w fun e w' => ∃ v, e = .returned v ∧ CutRow w w' (maxAt (rowsOf l)) v ∧ Mods Nil w w' := by
  obtain ⟨i0, hi, hz0, hz1, hz2⟩ := info_parts infoV64
  obtain ⟨N, hN⟩ : ∃ N, lenMax l = N := ⟨_, rfl⟩
  have hN6 : N ≤ 1000000 := by rw [← hN]; exact lenMax_take_le _ (fun r h => (hr r h).le)
  have HLO := Lib.hid (fun (V : World) (hV : Mods Nil w V) => r9longest_any V hn hl (hs.mods hV (fun _ _ h => h)) (fun r h => (hr r h).le))
  rw [hN] at HLO
  have HS := Lib.hid hs
  have HN := Lib.hid hn
  have HR := Lib.hid hr
  have HNN := Lib.hid hN
  have hn0 : 0 < N → 0 < n := fun h => by
    rcases Nat.eq_zero_or_pos n with e | e
    · have : l = [] := List.length_eq_zero_iff.1 (by rw [hn]; exact e)
      subst this
      simp [lenMax] at hN
      omega
    · exact e
  have HN0 := Lib.hid hn0
  clear hn hs hr hN hn0
  go_enter Try.func56, Try.ntmps56
  go_wp2
  go_loopw [5, 6] (fun v x wr => ∃ (j c3 : Nat) (A3 : Option Addr) (M : List Nat), j ≤ N ∧ x = .int .i64 (j : Int) ∧ v = .slice A3 j c3 ∧ M.length = j ∧ (∀ i, i < j → vat M i = maxAt (rowsOf l) i) ∧ wr.ownsRow w.heap.size 37 1 (.slice A3 j c3) j (nums M) ∧ Mods Nil w wr) (fun _ x _ => N - (intOf x).toNat)
  case atStart => exact ⟨0, 0, none, [], Nat.zero_le _, rfl, rfl, rfl, fun i h => by omega, World.ownsRow_nil _ _ _ _, Mods.refl _ _⟩
  case round =>
    obtain ⟨j, c3, A3, M, hj, rfl, rfl, hk, hv, ho, hmo⟩ := hrel
    have HK := Lib.hid hk
    have HV := Lib.hid hv
    have HO := Lib.hid ho
    have HMO := Lib.hid hmo
    clear hk hv ho hmo
    by_cases hlt : j < N
    · have hjI : (j : Int) < (N : Int) := by omega
      have hnp : 0 < n := HN0.out (by omega)
      have hnI : (0 : Int) < (n : Int) := by omega
      obtain ⟨b0, off0, rfl, hbl0, hc0⟩ := rowN_at (HS.out.mods HMO.out (fun _ _ h => h)) (j := 0) (by rw [HN.out]; exact hnp)
      rw [Nat.add_zero] at hc0
      have HR0 := HR.out _ (List.getElem_mem (show 0 < l.length by rw [HN.out]; exact hnp))
      have hmin0 : maxAt (rowsOf (l.take 1)) j = vat (l[0]'(by rw [HN.out]; exact hnp)).xs j := by
        rw [List.take_succ_eq_append_getElem (show 0 < l.length by rw [HN.out]; exact hnp)]
        simp [rowsOf, maxAt]
      generalize l[0]'(by rw [HN.out]; exact hnp) = r0 at hc0 HR0 hmin0
      obtain ⟨A0, c0, ys0⟩ := r0
      dsimp only at hc0 hmin0
      obtain ⟨q0, hq0⟩ : ∃ q, ys0.length = q := ⟨_, rfl⟩
      rw [hq0] at hc0
      obtain ⟨x0, hx0⟩ : ∃ x, vat ys0 j = x := ⟨_, rfl⟩
      have HAT0 := Lib.hid (r9at_nat wr hq0 (HR0.sl.mods HMO.out (fun _ _ h => h)) j)
      rw [hx0] at HAT0 hmin0
      have HMIN0 := Lib.hid hmin0
      clear hq0 HR0 hmin0 hx0 hbl0
      go_wp2_with (first
        | (go_at_call 110; refine (HLO.out _ HMO.out).mono ?_; rintro e w1 ⟨rfl, rfl⟩)
        | (go_at_call 52; refine (HAT0.out).mono ?_; rintro e w1 ⟨rfl, rfl⟩))
      go_loopw [7, 8] (fun p x wr2 => ∃ (k y : Nat), 1 ≤ k ∧ k ≤ n ∧ x = .int .i64 (k : Int) ∧ p = .int .u64 (y : Int) ∧ maxAt (rowsOf (l.take k)) j = y ∧ wr = wr2) (fun _ x _ => n - (intOf x).toNat)
      case atStart => exact ⟨1, x0, Nat.le_refl _, by omega, rfl, rfl, HMIN0.out, rfl⟩
      case round =>
        clear HMIN0 HAT0 hc0
        obtain ⟨k, y, hk1, hkn, rfl, rfl, hy, rfl⟩ := hrel
        have HY := Lib.hid hy
        clear hy
        by_cases hltk : k < n
        · have hkI : (k : Int) < (n : Int) := by omega
          have hkl : k < l.length := by rw [HN.out]; exact hltk
          obtain ⟨b, off, hA, hbl, hc⟩ := rowN_at (HS.out.mods HMO.out (fun _ _ h => h)) hkl
          injection hA with hA
          injection hA with hA1 hA2
          subst hA1; subst hA2
          have hok := HR.out _ (List.getElem_mem hkl)
          have hst := maxAt_take_succ hkl j
          generalize l[k] = r at hc hok hst
          obtain ⟨A4, c4, ys⟩ := r
          dsimp only at hc hst
          obtain ⟨q, hq⟩ : ∃ q, ys.length = q := ⟨_, rfl⟩
          rw [hq] at hc
          obtain ⟨z, hz⟩ : ∃ z, vat ys j = z := ⟨_, rfl⟩
          have HATK := Lib.hid (r9at_nat wr hq (hok.sl.mods HMO.out (fun _ _ h => h)) j)
          rw [hz] at HATK hst
          rw [HY.out] at hst
          have HST := Lib.hid hst
          clear hkl hok hst hq hz hbl
          by_cases hb : y < z
          · have hbI : decide ((y : Int) < (z : Int)) = true := by simp; omega
            go_wp2_with (go_at_call 52; refine (HATK.out).mono ?_; rintro e w1 ⟨rfl, rfl⟩)
            exact ⟨⟨k + 1, z, by omega, by omega, by go_num, rfl, by rw [HST.out]; omega, by trivial⟩, by simp [intOf]; omega⟩
          · have hbI : decide ((y : Int) < (z : Int)) = false := by simp; omega
            go_wp2_with (go_at_call 52; refine (HATK.out).mono ?_; rintro e w1 ⟨rfl, rfl⟩)
            exact ⟨⟨k + 1, y, by omega, by omega, by go_num, rfl, by rw [HST.out]; omega, by trivial⟩, by simp [intOf]; omega⟩
        · obtain rfl : k = n := by omega
          have hfull : l.take k = l := List.take_of_length_le (by rw [HN.out]; exact Nat.le_refl _)
          rw [hfull] at HY
          clear hfull
          go_wp2_with (at_builtin; refine wpList_append_sl _ rfl _ _ 83 rfl w.heap.size 37 i0 (.int .u64 0) 8 Try.underlying83 hi hz0 hz1 hz2 rfl _ j _ rfl (HO.out.alloc _) (some ⟨wr.heap.size, 0, none⟩) 1 1 [.int .u64 (y : Int)] rfl rfl (build_at (n := 1) (by simp) rfl rfl (by decide)) (by simp [Value.oneCell']) (by omega) (by unfold maxLen; omega) (HMO.out.alloc _).size ?_; intro v' w3 hown hgrow _; obtain ⟨A5, c5, rfl, e5, s5, b5⟩ := own_slice hown; have O3 := Lib.hid hown; have M3 := Lib.hid (show Mods Nil w w3 from (HMO.out.alloc _).nil_trans ((Mods.refl (fun q => (Value.slice A3 j c3).ownBlock = some q) _).grown hgrow (fun q hq _ => hq)) (fun i h => (HO.out.lt i h).1)); clear hown hgrow e5 s5 b5)
          exact ⟨⟨j + 1, c5, A5, M ++ [y], by omega, by go_num, rfl, by rw [List.length_append, HK.out]; rfl, fun i hi => by
            rw [vat_append, HK.out]
            by_cases h : i < j
            · rw [if_pos h]; exact HV.out i h
            · obtain rfl : i = j := by omega
              rw [if_neg h, HY.out, Nat.sub_self]
              rfl, by rw [nums_append]; exact O3.out, M3.out⟩, by simp [intOf]; omega⟩
    · obtain rfl : j = N := by omega
      go_wp2_with (first
        | (go_at_call 110; refine (HLO.out _ HMO.out).mono ?_; rintro e w1 ⟨rfl, rfl⟩)
        | (go_at_call 54; refine (r9cut_any wr HK.out (by omega) (own_sl HO.out)).mono ?_; rintro e w5 ⟨v5, rfl, o5, m5⟩; have O5 := Lib.hid (own_rebase o5 (HMO.out.size : w.heap.size ≤ wr.heap.size)); have M5 := Lib.hid (HMO.out.trans m5); clear o5 m5))
      go_ret
      refine ⟨_, rfl, ⟨cut M, O5.out, cut_isCut M, fun i => ?_⟩, M5.out⟩
      rw [vat_cut]
      by_cases h : i < j
      · exact HV.out i h
      · rw [vat_ge (xs := M) (by rw [HK.out]; omega), maxAt_far (by rw [HNN.out]; omega)]
end Go.Proofs.Ytdllgmhipenidaa
