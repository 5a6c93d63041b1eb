/- Package learner: Gaps. -/
import Derived.Test.YtbpflkjodiaokaaLrn2
import Derived.Test.YtbpflkjodiaokaaLrn3
import Derived.Test.YtbpflkjodiaokaaOpen
import Derived.Maps.AppendAt
import Derived.BigQuiet
import Derived.Deep.QuietTactic
namespace Go.Proofs.Ytbpflkjodiaokaa
set_option maxRecDepth 100000
open Go.RowKit Go.Shelf
set_option linter.unusedVariables false
set_option linter.unusedSimpArgs false

attribute [local go_sem] Oper.semAt_some

theorem infoU64L : (Try.prog.info? 29).map (fun i => (i.zero, i.size, i.bytes)) = some (some (.int .u64 0), 1, 8) := by kernel_rfl
/-- What Gaps tells: numbers in new memory. -/
def LGapT (W : World) (xs : List Nat) (e : Ending) (W' : World) : Prop := ∃ A c n, e = .returned (.slice A n c) ∧ xs.length = n ∧ Sl W' A c (nums xs) ∧ (xs ≠ [] → ∀ a, A = some a → W.heap.size ≤ a.block ∧ a.block < W'.heap.size) ∧ Mods Nil W W'
theorem lgapT_of {W W' : World} {xs : List Nat} {v : Value} (h : W'.ownsRow W.heap.size 29 1 v xs.length (nums xs)) (hm : Mods Nil W W') : LGapT W xs (.returned v) W' := by
  obtain ⟨A, c, rfl, _, hs, ho⟩ := own_slice h
  exact ⟨A, c, _, rfl, rfl, hs, fun _ a ha => h.lt _ (ho a ha).1, hm⟩
section
variable {W0 W W' : World} {X S : Nat → Prop} {b T : Nat} {L : List KV} {mv : Value}
/-- What lies where the loop stands. -/
structure GapI (w W : World) (base : Nat) (pre : List Nat) (M : Int) : Prop where
  row : ∃ v, Blk W (w.heap.size + 1) 22 #[v] ∧ W.ownsRow base 29 1 v pre.length (nums pre)
  box : Blk W w.heap.size 3 #[.int .i64 M]
  m : Mods Nil w W
theorem GapI.mods {w A B : World} {base : Nat} {pre : List Nat} {M : Int} (h : GapI w A base pre M) (hm : Mods S A B) (hS : ∀ k, S k → w.heap.size + 2 ≤ k ∧ k < base) : GapI w B base pre M := by
  obtain ⟨⟨v, h1, h2⟩, h3, h4⟩ := h
  exact ⟨⟨v, h1.mods hm (fun h => by have := hS _ h; omega), own_mods h2 hm (fun k hk h => by have := (h2.lt k hk).1; have := hS _ h; omega)⟩, h3.mods hm (fun h => by have := hS _ h; omega), h4.nil_trans hm (fun i h => by have := hS _ h; omega)⟩
set_option maxHeartbeats 4000000 in
theorem LrS.gaps0 (h : LrS W0 W X b L T) {most : Int} (hm : most ≤ 100000) (hm2 : -9223372036854775808 ≤ most) :
    Calls Try.prog 16 #[.pointer (some ⟨b, 0, none⟩), .int .i64 most] W (LGapT W (gapsL L most.toNat)) := by
  by_cases hm1 : most < 1
  · have hz : gapsL L most.toNat = [] := by
      rw [show most.toNat = 0 by omega]
      unfold gapsL
      exact List.take_zero
    rw [hz]
    have c0 : ((W.alloc (.cells #[.int .i64 most] 3)).drewN 1).cell? ⟨W.heap.size, 0, none⟩ = some (.int .i64 most) := (Blk.new W 3 #[.int .i64 most]).cell 0
    have hd : decide (most < 1) = true := by simp [hm1]
    clear h hz
    go_enter Try.func16, Try.ntmps16
    go_wp2
    go_ret
    exact ⟨none, 0, 0, rfl, rfl, Sl.none_ _, fun h => absurd rfl h, (Mods.refl _ _).alloc _⟩
  · obtain ⟨M, rfl⟩ : ∃ M : Nat, most = (M : Int) := ⟨most.toNat, by omega⟩
    rw [show (M : Int).toNat = M by omega]
    have hM1 : 1 ≤ M := by omega
    have hM5 : M ≤ 100000 := by omega
    have hd : decide ((M : Int) < 1) = false := by simp; omega
    have hd2 : decide (M < 1) = false := by simp; omega
    obtain ⟨i0, hi, hz0, hz1, hz2⟩ := info_parts infoU64L
    obtain ⟨mv, r, h0, h1, h2⟩ := h.blk
    have hbW := h1.lt
    have hTop := topL_lt h.ok
    have hmvW : ∀ k, mv = .map (some k) → k < W.heap.size := fun k hk => by
      rcases h2 with ⟨e, _⟩ | ⟨mb, e, q⟩
      · rw [e] at hk; cases hk
      · rw [e] at hk
        injection hk with hk
        injection hk with hk
        subst hk
        exact q.lt
    have H0 := Lib.hid h0
    have H1 := Lib.hid h1
    have H2 := Lib.hid h2
    have HBW := Lib.hid hbW
    have HTOP := Lib.hid hTop
    have HMV := Lib.hid hmvW
    clear h h0 h1 h2 hbW hTop hmvW hm hm2
    refine (callsIn_wide (n := 9)).1 ?_
    refine callsIn_of_wp_marks Try.func16 rfl trivial ?_ rfl
    simp only [Try.ntmps16, List.size_toArray, List.length_cons, List.length_nil, Nat.reduceAdd, Nat.reduceSub, Array.replicate_succ, Array.replicate_zero, List.push_toArray, List.append_toArray, List.nil_append, List.cons_append]
    gi_wp2_with (refine ⟨trivial, ?_⟩; gi_at_call 24; refine (callsIn_wide.2 (lgaps_any _ _)).mono ?_; rintro e w' ⟨rfl, rfl⟩)
    have bI := ((Blk.new W 3 #[.int .i64 (M : Int)]).alloc (.cells #[.slice none 0 0] 22)).alloc (.cells #[.pointer (some ⟨b, 0, none⟩)] 25)
    have bL := (Blk.new (W.alloc (.cells #[.int .i64 (M : Int)] 3)) 22 #[.slice none 0 0]).alloc (.cells #[.pointer (some ⟨b, 0, none⟩)] 25)
    have bB := Blk.new ((W.alloc (.cells #[.int .i64 (M : Int)] 3)).alloc (.cells #[.slice none 0 0] 22)) 25 #[.pointer (some ⟨b, 0, none⟩)]
    have m0 : Mods Nil W (((W.alloc (.cells #[.int .i64 (M : Int)] 3)).alloc (.cells #[.slice none 0 0] 22)).alloc (.cells #[.pointer (some ⟨b, 0, none⟩)] 25)) := (((Mods.refl _ _).alloc _).alloc _).alloc _
    have hsz : (((W.alloc (.cells #[.int .i64 (M : Int)] 3)).alloc (.cells #[.slice none 0 0] 22)).alloc (.cells #[.pointer (some ⟨b, 0, none⟩)] 25)).heap.size = W.heap.size + 3 := by simp
    simp only [World.size_alloc] at bL bB
    obtain ⟨V0, hV0⟩ : ∃ V0, (((W.alloc (.cells #[.int .i64 (M : Int)] 3)).alloc (.cells #[.slice none 0 0] 22)).alloc (.cells #[.pointer (some ⟨b, 0, none⟩)] 25)) = V0 := ⟨_, rfl⟩
    rw [hV0] at bI bL bB m0 hsz ⊢
    clear hV0
    have HSZ := Lib.hid hsz
    have BB := Lib.hid bB
    have M0 := Lib.hid m0
    have g0 : GapI W V0 (V0.heap.size + 2) [] (M : Int) := ⟨⟨_, bL, World.ownsRow_nil _ _ _ _⟩, bI, m0⟩
    have G0 := Lib.hid g0
    clear bI bL bB m0 g0 hsz
    refine wpIn_rangeFunc_B (n := 9) (gf := 26) (lb := #[.pointer (some ⟨W.heap.size + 1 + 1, 0, none⟩)]) rfl (enters_of Try.func26 (by kernel_rfl) rfl) (encs := fun (x : Nat) => #[.int .u64 (x : Int)]) (fun _ => rfl)
      (fun k => k = W.heap.size + 1 ∨ V0.heap.size + 2 ≤ k) (by have := HSZ.out; omega) (by have := HSZ.out; omega)
      (fun pre V => GapI W V (V0.heap.size + 2) pre (M : Int) ∧ pre.length < M)
      (fun i pre V => i = 0 ∧ GapI W V (V0.heap.size + 2) pre (M : Int) ∧ pre.length = M)
      (fun _ _ => True)
      (fun x a' V => a' = { tmps := #[.pointer (some ⟨b, 0, none⟩), .int .i64 (M : Int), undef, .pointer (some ⟨W.heap.size, 0, none⟩), .slice none 0 0, .pointer (some ⟨W.heap.size + 1, 0, none⟩), .int .u64 (x : Int), .pointer (some ⟨b, 0, none⟩), .bool false, .bool false, .int .i64 (M : Int), .bool false, .bool false, .pointer (some ⟨b, 0, none⟩), .func (.func 26) #[] #[.pointer (some ⟨W.heap.size + 1 + 1, 0, none⟩)], .int .u64 (x : Int), undef, undef, undef, undef, undef, undef, undef, undef, undef], defers := [] })
      ?hI ?hIx ?hAx (fun xs => xs = gapsTo L (topL L)) (fun xs => ∃ s, s ≤ topL L ∧ xs = gapsTo L s) ?hseq ?h0 ?hassign ?hbody ?hdone ?hstop
    case hI =>
      rintro pre A1 B1 ⟨h1, h2⟩ hm
      exact ⟨h1.mods hm (fun k hk => by have := HSZ.out; omega), h2⟩
    case hIx =>
      rintro i pre A1 B1 ⟨h0, h1, h2⟩ hm
      exact ⟨h0, h1.mods hm (fun k hk => by have := HSZ.out; omega), h2⟩
    case hAx => exact fun x a' A1 B1 h _ => h
    case hseq =>
      intro J Jx V hm hsize hJ hJx hY hj0
      have hsz := HSZ.out
      have hbw := HBW.out
      have mWV : Mods Nil W V := M0.out.trans hm
      exact gaps1_in (V0.heap.size + 1) (W.heap.size + 1 + 1) b r V (fun k => (k = W.heap.size + 1 ∨ V0.heap.size + 2 ≤ k) ∨ k = V0.heap.size + 1) (BB.out.mods hm (fun h => h)) (H1.out.mods mWV (fun h => h)) (by omega) (by omega)
        (fun s hs => (H2.out.mods mWV (fun _ _ _ _ h => h) (fun _ _ h => h)).look hs (fun k hk h => by have := HMV.out k hk; omega)) HTOP.out H0.out J Jx hJ hJx hY hj0
    case h0 => exact ⟨G0.out, by show 0 < M; omega⟩
    case hassign =>
      intro pre x V K' hsize hi hg hK
      have HI := Lib.hid hi
      have HK := Lib.hid hK
      clear hi hg hK
      gi_wp2
      exact HK.out _ _ (Mods.refl _ _) HI.out rfl
    case hbody =>
      rintro pre x a' V ⟨⟨⟨v, h1, h2⟩, h3, h4⟩, hlen⟩ - rfl hsize
      have c0 := h1.cell 0
      simp at c0
      have c0' := (h1.alloc (.cells #[.int .u64 (x : Int)] 29)).cell 0
      simp at c0'
      have hlI : (pre.length : Int) + 1 ≤ 9223372036854775807 := by omega
      have H1' := Lib.hid h1
      have H2' := Lib.hid h2
      have H3' := Lib.hid h3
      have H4' := Lib.hid h4
      clear h1 h2 h3 h4
      have HBD : Hid (∀ v' w1, w1.ownsRow (V0.heap.size + 2) 29 1 v' (pre.length + 1) (nums pre ++ [.int .u64 (x : Int)]) → Mods (fun k => v.ownBlock = some k) V w1 → Mods (fun k => k = W.heap.size + 1 ∨ V0.heap.size + 2 ≤ k) V (w1.setCell ⟨W.heap.size + 1, 0, none⟩ v') ∧ GapI W (w1.setCell ⟨W.heap.size + 1, 0, none⟩ v') (V0.heap.size + 2) (pre ++ [x]) (M : Int)) := Lib.hid (fun v' w1 ho mA => by
        have hsz := HSZ.out
        have b1 := H1'.out.mods mA (fun h => by have := (H2'.out.lt _ h).1; omega)
        have b3 := H3'.out.mods mA (fun h => by have := (H2'.out.lt _ h).1; omega)
        have mS : Mods (fun i => i = W.heap.size + 1) w1 (w1.setCell ⟨W.heap.size + 1, 0, none⟩ v') := Mods.setCell (S := fun i => i = W.heap.size + 1) (Mods.refl _ _) (fun _ => rfl) _
        have mK : Mods (fun k => k = W.heap.size + 1 ∨ V0.heap.size + 2 ≤ k) V w1 := mA.mono (fun i _ h => .inr (H2'.out.lt _ h).1)
        refine ⟨mK.trans (mS.mono (fun i _ h => .inl h)), ⟨v', by simpa using b1.set_ 0 v', ?_⟩, b3.mods mS (by omega), (H4'.out.nil_trans mK (fun i h => by omega)).nil_trans mS (fun i h => by omega)⟩
        have := own_mods ho mS (fun k hk h => by have := (ho.lt k hk).1; omega)
        simpa [nums] using this)
      have HBI : Hid (∀ v' w1, w1.ownsRow (V0.heap.size + 2) 29 1 v' (pre.length + 1) (nums pre ++ [.int .u64 (x : Int)]) → Mods (fun k => v.ownBlock = some k) V w1 → w1.cell? ⟨W.heap.size + 1, 0, none⟩ = some v ∧ w1.frozen? ⟨W.heap.size + 1, 0, none⟩ = false ∧ w1.cell? ⟨W.heap.size, 0, none⟩ = some (.int .i64 (M : Int)) ∧ (w1.setCell ⟨W.heap.size + 1, 0, none⟩ v').cell? ⟨W.heap.size, 0, none⟩ = some (.int .i64 (M : Int)) ∧ (w1.setCell ⟨W.heap.size + 1, 0, none⟩ v').cell? ⟨W.heap.size + 1, 0, none⟩ = some v') := Lib.hid (fun v' w1 ho mA => by
        have hsz := HSZ.out
        have b1 := H1'.out.mods mA (fun h => by have := (H2'.out.lt _ h).1; omega)
        have b3 := H3'.out.mods mA (fun h => by have := (H2'.out.lt _ h).1; omega)
        exact ⟨b1.cell 0, b1.frozen 0, b3.cell 0, (b3.far (p := ⟨W.heap.size + 1, 0, none⟩) (by simp) v').cell 0, (b1.set_ 0 v').cell 0⟩)
      by_cases hend : pre.length + 1 = M
      · have hendI : ((pre.length : Int) + 1 == (M : Int)) = true := by simp; omega
        have HEND := Lib.hid hend
        clear hend
        gi_wp2_with (gi_at_builtin; refine wpListIn_append_own _ rfl _ _ 22 rfl (V0.heap.size + 2) 29 i0 (.int .u64 0) 1 8 Try.underlying22 hi hz0 hz1 hz2 rfl (by decide) _ _ _ rfl (H2'.out.alloc _) ⟨V.heap.size, 0, none⟩ 1 1 [.int .u64 (x : Int)] rfl rfl new1L (by simp [Value.oneCell']) (by unfold maxLen; omega) (by omega) (by simp; omega) ?_; intro v' w1 hown' hgrow _; obtain ⟨g', cap', rfl⟩ := ownsRow_succ hown'; have mA : Mods (fun k => v.ownBlock = some k) V w1 := ((Mods.refl _ _).alloc _).grown hgrow (fun k hk _ => hk); obtain ⟨e0, e1, e2, e3, e4⟩ := HBI.out _ w1 hown' mA; have HN := Lib.hid (HBD.out _ w1 hown' mA); clear mA hown' hgrow)
        have hh := HN.out
        exact ⟨hh.1, rfl, hh.2, by have := HEND.out; simp; omega⟩
      · have hendI : ((pre.length : Int) + 1 == (M : Int)) = false := by simp; omega
        have HEND := Lib.hid hend
        clear hend
        gi_wp2_with (gi_at_builtin; refine wpListIn_append_own _ rfl _ _ 22 rfl (V0.heap.size + 2) 29 i0 (.int .u64 0) 1 8 Try.underlying22 hi hz0 hz1 hz2 rfl (by decide) _ _ _ rfl (H2'.out.alloc _) ⟨V.heap.size, 0, none⟩ 1 1 [.int .u64 (x : Int)] rfl rfl new1L (by simp [Value.oneCell']) (by unfold maxLen; omega) (by omega) (by simp; omega) ?_; intro v' w1 hown' hgrow _; obtain ⟨g', cap', rfl⟩ := ownsRow_succ hown'; have mA : Mods (fun k => v.ownBlock = some k) V w1 := ((Mods.refl _ _).alloc _).grown hgrow (fun k hk _ => hk); obtain ⟨e0, e1, e2, e3, e4⟩ := HBI.out _ w1 hown' mA; have HN := Lib.hid (HBD.out _ w1 hown' mA); clear mA hown' hgrow)
        have hh := HN.out
        exact ⟨hh.1, hh.2, by have := HEND.out; simp; omega⟩
    case hdone =>
      rintro xs V hxs ⟨⟨⟨v, h1, h2⟩, h3, h4⟩, hlen⟩ hK
      have HXS : Hid (gapsL L M = xs) := Lib.hid (by rw [hxs]; exact gaps_stop (Nat.le_refl _) (.inl rfl) (by rw [← hxs]; omega))
      have c0 := h1.cell 0
      simp at c0
      have H2' := Lib.hid h2
      have H4' := Lib.hid h4
      clear h1 h2 h3 h4
      gi_wp2
      have mF : Mods (fun i => i = V0.heap.size) V (V.putObj V0.heap.size (.deferred none)) := Mods.putObj (S := fun i => i = V0.heap.size) (Mods.refl _ _) (fun _ => rfl) _
      have hsz := HSZ.out
      refine ⟨by simp, .inl ⟨_, _, rfl, run_takeDeferred hK, ?_⟩⟩
      refine ⟨_, results_tmp rfl _ _ _, ?_⟩
      rw [HXS.out]
      exact lgapT_of (own_mods (own_rebase H2'.out (by omega)) mF (fun k hk h => by have := (H2'.out.lt k hk).1; omega)) (H4'.out.nil_trans mF (fun i h => by omega))
    case hstop =>
      rintro i xs V hxs ⟨rfl, ⟨⟨v, h1, h2⟩, h3, h4⟩, hlen⟩ hK
      have HXS : Hid (gapsL L M = xs) := Lib.hid (by obtain ⟨s, hs, e⟩ := hxs; rw [e]; exact gaps_stop hs (.inr (by rw [← e]; omega)) (by rw [← e]; omega))
      have c0 := h1.cell 0
      simp at c0
      have H2' := Lib.hid h2
      have H4' := Lib.hid h4
      clear h1 h2 h3 h4
      gi_wp2
      have mF : Mods (fun i => i = V0.heap.size) V (V.putObj V0.heap.size (.deferred none)) := Mods.putObj (S := fun i => i = V0.heap.size) (Mods.refl _ _) (fun _ => rfl) _
      have hsz := HSZ.out
      refine ⟨by simp, .inl ⟨_, _, rfl, run_takeDeferred hK, ?_⟩⟩
      refine ⟨_, results_tmp rfl _ _ _, ?_⟩
      rw [HXS.out]
      exact lgapT_of (own_mods (own_rebase H2'.out (by omega)) mF (fun k hk h => by have := (H2'.out.lt k hk).1; omega)) (H4'.out.nil_trans mF (fun i h => by omega))
theorem LrS.gaps (h : LrS W0 W X b L T) (hT : T ≤ 1000) {most : Int} (hm : most ≤ 100000) (hm2 : -9223372036854775808 ≤ most) : Calls Try.prog 16 #[.pointer (some ⟨b, 0, none⟩), .int .i64 most] W (LGapT W (gapsL L most.toNat)) := h.gaps0 hm hm2
end
theorem lrn_gaps_nil (W : World) (x : Int) : Calls Try.prog 16 #[.pointer none, .int .i64 x] W fun e W' => ∃ A c, e = .returned (.slice A 0 c) ∧ Mods Nil W W' := by
  go_enter Try.func16, Try.ntmps16
  go_wp2
  go_ret
  exact ⟨none, 0, rfl, (Mods.refl _ _).alloc _⟩
end Go.Proofs.Ytbpflkjodiaokaa
