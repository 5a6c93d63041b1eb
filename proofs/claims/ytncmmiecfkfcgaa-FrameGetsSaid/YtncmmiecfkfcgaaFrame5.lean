/- Package frame: all whole frames at the front of bytes. -/
import Derived.Test.YtncmmiecfkfcgaaFrame4
import Derived.Maps.AppendAt
import Derived.BigQuiet
import Derived.Deep.QuietTactic
namespace Go.Proofs.Ytncmmiecfkfcgaa
open Go.RowKit Go.Shelf
set_option linter.unusedVariables false

attribute [local go_sem] Oper.semAt_some

theorem infoFrame : (Try.prog.info? 25).map (fun i => (i.zero, i.size, i.bytes)) = some (some (.agg #[.int .u8 0, .slice none 0 0]), 2, 32) := by kernel_rfl
theorem Blk.keep {S : Nat → Prop} {w w' : World} {g : Nat} {t : TypeId} {cs : Array Value} (h : Blk w g t cs) (hm : Mods S w w') (hS : ¬ S g) : Blk w' g t cs := h.mods hm hS
theorem ok_all {S : Nat → Prop} {base : Nat} {w w' : World} {l : List (Fr × Nat)} (h : ∀ f ∈ l, f.1.ok base w) (hm : Mods S w w') (hS : ∀ k, S k → k < base ∨ ∃ t cs, t ≠ 5 ∧ Blk w k t cs) : ∀ f ∈ l, f.1.ok base w' := fun f hf => (h f hf).mods hm hS
/-- Two cells of a new block. -/
theorem two_new {w : World} {t : TypeId} {x y : Value} : ∀ j u, [x, y][j]? = some u → (w.alloc (.cells #[x, y] t)).cell? ((⟨w.heap.size, 0, none⟩ : Addr).add j) = some u := by
  intro j u hu
  rw [Addr.add_lit, World.cell?_alloc_mark]
  match j, hu with
  | 0, hu => simpa using hu
  | 1, hu => simpa using hu

set_option maxRecDepth 100000 in
set_option maxHeartbeats 4000000 in
theorem all_any {w : World} {A : Option Addr} {c n : Nat} {xs : List UInt8} (hn : xs.length = n) (hlim : n ≤ 1000000) (hs : Sl w A c (bts xs)) :
    Calls Try.prog 12 #[.slice A n c] w fun e w' => ∃ v l, e = .returned (.tuple #[v, .int .i64 ((allOf xs).2 : Int)]) ∧ w'.ownsRow w.heap.size 25 2 v l.length (frs (l.map (·.1))) ∧
      (∀ f ∈ l, f.1.ok w.heap.size w') ∧ plainOf l = (allOf xs).1 ∧ Mods Nil w w' := by
  obtain ⟨i0, hi, hz0, hz1, hz2⟩ := info_parts infoFrame
  have HS := Lib.hid hs
  have HN := Lib.hid hn
  clear hs hn
  refine (callsIn_wide (n := 9)).1 ?_
  refine callsIn_of_wp_marks Try.func12 rfl trivial ?_ rfl
  simp only [Try.ntmps12, List.size_toArray, List.length_cons, List.length_nil, Nat.reduceAdd, Nat.reduceSub, Array.replicate_succ, Array.replicate_zero, List.push_toArray, List.append_toArray, List.nil_append, List.cons_append]
  gi_wp2_with (refine ⟨trivial, ?_⟩; gi_at_call 20; refine (callsIn_wide.2 (each_any _ _ _ _)).mono ?_; rintro e w' ⟨rfl, rfl⟩)
  have bL := ((Blk.new w 33 #[.slice none 0 0]).alloc (.cells #[.int .i64 0] 3)).alloc (.cells #[.slice A n c] 22)
  have bT := (Blk.new (w.alloc (.cells #[.slice none 0 0] 33)) 3 #[.int .i64 0]).alloc (.cells #[.slice A n c] 22)
  have bB := Blk.new ((w.alloc (.cells #[.slice none 0 0] 33)).alloc (.cells #[.int .i64 0] 3)) 22 #[.slice A n c]
  have m0 : Mods Nil w (((w.alloc (.cells #[.slice none 0 0] 33)).alloc (.cells #[.int .i64 0] 3)).alloc (.cells #[.slice A n c] 22)) := (((Mods.refl _ _).alloc _).alloc _).alloc _
  have hsz : (((w.alloc (.cells #[.slice none 0 0] 33)).alloc (.cells #[.int .i64 0] 3)).alloc (.cells #[.slice A n c] 22)).heap.size = w.heap.size + 3 := by simp
  simp only [World.size_alloc] at bT bB
  obtain ⟨W0, hW0⟩ : ∃ W0, (((w.alloc (.cells #[.slice none 0 0] 33)).alloc (.cells #[.int .i64 0] 3)).alloc (.cells #[.slice A n c] 22)) = W0 := ⟨_, rfl⟩
  rw [hW0] at bL bT bB m0 hsz ⊢
  clear hW0
  have s0 : Sl W0 A c (bts xs) := HS.out.mods m0 (fun _ _ h => h)
  have HSZ := Lib.hid hsz
  have HOLD := Lib.hid (fun (hx : xs ≠ []) => HS.out.old (show bts xs ≠ [] by cases xs with | nil => exact absurd rfl hx | cons x r => simp [bts]))
  refine wpIn_rangeFunc_J (n := 9) (gf := 35) (lb := #[.pointer (some ⟨w.heap.size + 1 + 1, 0, none⟩)]) rfl (enters_of Try.func35 (by kernel_rfl) rfl) (encs := encF) (fun _ => rfl)
    (fun k => k = w.heap.size + 1 + 1) (fun k => k = w.heap.size ∨ k = w.heap.size + 1 ∨ W0.heap.size + 2 ≤ k) (fun i h => by omega) (by omega) (by omega)
    (fun pre W => (∃ v, Blk W w.heap.size 33 #[v] ∧ W.ownsRow (W0.heap.size + 2) 25 2 v pre.length (frs (pre.map (·.1)))) ∧ Blk W (w.heap.size + 1) 3 #[.int .i64 (sumN pre : Int)] ∧ (∀ f ∈ pre, f.1.ok (W0.heap.size + 2) W) ∧ Mods Nil w W)
    (fun pre x W => x.1.ok (W0.heap.size + 2) W ∧ pre.length * 6 + 6 ≤ xs.length ∧ sumN pre + x.2 ≤ xs.length)
    (fun x a' W => ∃ g, W0.heap.size + 2 ≤ g ∧ Blk W g 25 #[.int .u8 (x.1.k.toNat : Int), .slice x.1.A x.1.xs.length x.1.c] ∧
      a' = { tmps := #[.slice A n c, undef, .slice none 0 0, .int .i64 0, .pointer (some ⟨w.heap.size, 0, none⟩), .pointer (some ⟨w.heap.size + 1, 0, none⟩), .pointer (some ⟨g, 0, none⟩), .int .i64 (x.2 : Int), .slice A n c, .func (.func 35) #[] #[.pointer (some ⟨w.heap.size + 1 + 1, 0, none⟩)], x.1.agg, .int .i64 (x.2 : Int), undef, undef, undef, undef, undef, undef, undef, undef, undef], defers := [] })
    ?hI ?hG ?hAx (fun pre => plainOf pre = (allOf xs).1 ∧ sumN pre = (allOf xs).2) ?hseq ?h0 ?hassign ?hbody ?hdone
  case hI =>
    rintro pre A1 B1 ⟨⟨v, h1, h2⟩, h3, h4, h5⟩ hm
    refine ⟨⟨v, h1.mods hm (by omega), own_mods h2 hm (fun k hk h => ?_)⟩, h3.mods hm (by omega), ok_all h4 hm (fun k h => .inl (by omega)), h5.nil_trans hm (fun i h => by omega)⟩
    have := (h2.lt k hk).1
    omega
  case hG =>
    rintro pre x A1 B1 ⟨h1, h2, h3⟩ hm
    exact ⟨h1.mods hm (fun k h => .inl (by omega)), h2, h3⟩
  case hAx =>
    rintro x a' A1 B1 ⟨g, h1, h2, h3⟩ hm
    exact ⟨g, h1, h2.mods hm (by omega), h3⟩
  case hseq =>
    intro J W hm hsize hJ hY hj0
    refine each1_in (W0.heap.size + 1) (w.heap.size + 1 + 1) (W0.heap.size + 2) A c n xs W HN.out (bB.mods hm (fun h => h)) (s0.mods hm (fun _ _ h => h)) ?_ _ ?_ ?_ hsize J hJ hY hj0
    · intro hx a ha
      have := HOLD.out hx a ha
      omega
    · omega
    · intro hx a ha
      have := HOLD.out hx a ha
      omega
  case h0 => exact ⟨⟨_, bL, World.ownsRow_nil _ _ _ _⟩, bT, (fun f h => by cases h), m0⟩
  case hassign =>
    intro pre x W K' hsize hi hg hK
    have HI := Lib.hid hi
    have HG := Lib.hid hg
    have HK := Lib.hid hK
    clear hi hg hK hsz bL bT bB s0 m0
    simp only [encF, Fr.agg]
    gi_wp2
    have hm := (Mods.refl Nil W).alloc (.cells #[.int .u8 (x.1.k.toNat : Int), .slice x.1.A x.1.xs.length x.1.c] 25)
    obtain ⟨⟨v, h1, h2⟩, h3, h4, h5⟩ := HI.out
    refine HK.out _ _ hm ⟨⟨v, h1.alloc _, h2.alloc _⟩, h3.alloc _, ok_all h4 hm (fun k h => h.elim), h5.trans hm⟩ ⟨HG.out.1.mods hm (fun k h => h.elim), HG.out.2⟩ ⟨W.heap.size, hsize, Blk.new _ _ _, rfl⟩
  case hbody =>
    rintro pre x a' W ⟨⟨v, h1, h2⟩, h3, h4, h5⟩ ⟨g1, g2, g3⟩ ⟨g, hg, hb, rfl⟩ hsize
    have hpl : pre.length ≤ 1000000 := by have := HN.out; omega
    obtain ⟨d0, d1, d2, d3⟩ := hb.two
    have c0 := h1.cell 0
    have c1 := h3.cell 0
    have f1 := h3.frozen 0
    simp at c0 c1
    clear hsz bL bT bB s0 m0
    have hs63 : (sumN pre : Int) + (x.2 : Int) ≤ 9223372036854775807 := by have := HN.out; omega
    have H1 := Lib.hid h1
    have H2 := Lib.hid h2
    have H3 := Lib.hid h3
    have H4 := Lib.hid h4
    have H5 := Lib.hid h5
    have G1 := Lib.hid g1
    clear h1 h2 h3 h4 h5 g1 hb
    gi_wp2_with (gi_at_builtin; refine wpListIn_append_own _ rfl _ _ 33 rfl (W0.heap.size + 2) 25 i0 (.agg #[.int .u8 0, .slice none 0 0]) 2 32 Try.underlying33 hi hz0 hz1 hz2 rfl (by decide) _ _ _ rfl (H2.out.alloc _) ⟨W.heap.size, 0, none⟩ 1 1 [.int .u8 (x.1.k.toNat : Int), .slice x.1.A x.1.xs.length x.1.c] rfl rfl two_new (by simp [Value.oneCell']) (by unfold maxLen; omega) (by omega) (by simp; omega) ?_; intro v' w1 hown' hgrow _; obtain ⟨g', cap', rfl⟩ := ownsRow_succ hown'; have mA : Mods (fun k => v.ownBlock = some k) W w1 := ((Mods.refl _ _).alloc _).grown hgrow (fun k hk _ => hk); have b1 := H1.out.mods mA (fun h => by have := (H2.out.lt _ h).1; have := HSZ.out; omega); have b3 := H3.out.mods mA (fun h => by have := (H2.out.lt _ h).1; have := HSZ.out; omega); have e0 := b1.cell 0; have e1 := b1.frozen 0; have e2 := (b3.far (p := ⟨w.heap.size, 0, none⟩) (by simp) (.slice (some ⟨g', 0, none⟩) (pre.length + 1) cap')).cell 0; have e3 := (b3.far (p := ⟨w.heap.size, 0, none⟩) (by simp) (.slice (some ⟨g', 0, none⟩) (pre.length + 1) cap')).frozen 0; simp at e0 e2; have B1 := Lib.hid b1; have B3 := Lib.hid b3; have MA := Lib.hid mA; have HO := Lib.hid hown'; clear b1 b3 mA hown' hgrow)
    have hsz' := HSZ.out
    have bL2 := (B1.out.set_ 0 (.slice (some ⟨g', 0, none⟩) (pre.length + 1) cap')).far (p := ⟨w.heap.size + 1, 0, none⟩) (by simp) (.int .i64 ((sumN pre : Int) + (x.2 : Int)))
    have bT2 := (B3.out.far (p := ⟨w.heap.size, 0, none⟩) (by simp) (.slice (some ⟨g', 0, none⟩) (pre.length + 1) cap')).set_ 0 (.int .i64 ((sumN pre : Int) + (x.2 : Int)))
    have mS : Mods (fun k => k = w.heap.size ∨ k = w.heap.size + 1) w1 ((w1.setCell ⟨w.heap.size, 0, none⟩ (.slice (some ⟨g', 0, none⟩) (pre.length + 1) cap')).setCell ⟨w.heap.size + 1, 0, none⟩ (.int .i64 ((sumN pre : Int) + (x.2 : Int)))) :=
      Mods.setCell (S := fun k => k = w.heap.size ∨ k = w.heap.size + 1) (Mods.setCell (S := fun k => k = w.heap.size ∨ k = w.heap.size + 1) (Mods.refl _ _) (fun _ => .inl rfl) _) (fun _ => .inr rfl) _
    have mK : Mods (fun k => k = w.heap.size ∨ k = w.heap.size + 1 ∨ W0.heap.size + 2 ≤ k) W w1 := MA.out.mono (fun i _ h => .inr (.inr (H2.out.lt _ h).1))
    have hoks : ∀ f ∈ pre ++ [x], f.1.ok (W0.heap.size + 2) w1 := by
      have hv : ∀ k, v.ownBlock = some k → k < W0.heap.size + 2 ∨ ∃ t cs, t ≠ 5 ∧ Blk W k t cs := fun k hk => .inr ⟨_, by obtain ⟨cs, hcs⟩ := own_typed H2.out k hk; exact ⟨cs, by decide, hcs⟩⟩
      intro f hf
      rcases List.mem_append.1 hf with hf | hf
      · exact (H4.out f hf).mods MA.out hv
      · simp at hf
        subst hf
        exact G1.out.mods MA.out hv
    refine ⟨mK.trans (mS.mono (fun i _ h => h.elim .inl (fun h => .inr (.inl h)))), ⟨_, by simpa using bL2, ?_⟩, ?_, ok_all hoks mS (fun k h => .inl (by omega)), ?_⟩
    · have := own_mods HO.out mS (fun k hk h => by have := (HO.out.lt k hk).1; omega)
      rw [List.map_append, frs_append]
      simpa [frs, Fr.cells] using this
    · rw [sumN_snoc]
      simpa using bT2
    · exact (H5.out.nil_trans mK (fun i h => by omega)).nil_trans mS (fun i h => by omega)
  case hdone =>
    rintro pre W ⟨hp, hsum⟩ ⟨⟨v, h1, h2⟩, h3, h4, h5⟩ hK
    have c0 := h1.cell 0
    have c1 := h3.cell 0
    have f1 := h3.frozen 0
    simp at c0 c1
    have H1 := Lib.hid h1
    have H2 := Lib.hid h2
    have H4 := Lib.hid h4
    have H5 := Lib.hid h5
    clear hsz bL bT bB s0 m0 h1 h2 h3 h4 h5
    gi_wp2
    refine wpIn_wide.2 ?_
    go_quiet (fail)
    gi_wp2
    have hK' : (W.drewN nq).heap[W0.heap.size]? = some (.deferred (some [])) := hK
    have mF : Mods (fun k => k = W0.heap.size) W ((W.drewN nq).putObj W0.heap.size (.deferred none)) := Mods.putObj (S := fun k => k = W0.heap.size) ((Mods.refl _ _).drewN nq) (fun _ => rfl) _
    have hsz' := HSZ.out
    refine ⟨by simp, .inl ⟨_, _, rfl, run_takeDeferred hK', ?_⟩⟩
    refine ⟨_, results_tmp2 rfl _ _ _, v, pre, rfl, own_mods (own_rebase H2.out (by omega)) mF (fun k hk h => by have := (H2.out.lt k hk).1; omega), fun f hf => ?_, hp, H5.out.nil_trans mF (fun i h => by omega)⟩
    have := (H4.out f hf).mods mF (fun k h => .inl (by omega))
    exact ⟨this.1, fun a ha => ⟨by have := (this.2 a ha).1; omega, (this.2 a ha).2⟩⟩
end Go.Proofs.Ytncmmiecfkfcgaa
