/- Package net: the places of a node's packets: To. -/
import Derived.Test.YtglaenoaeiendaaNet8
import Derived.Maps.AppendAt
import Derived.BigQuiet
import Derived.Deep.QuietTactic
namespace Go.Proofs.Ytglaenoaeiendaa
set_option maxRecDepth 100000
open Go.RowKit Go.Shelf
set_option linter.unusedVariables false

attribute [local go_sem] Oper.semAt_some

theorem infoInt : (Try.prog.info? 3).map (fun i => (i.zero, i.size, i.bytes)) = some (some (.int .i64 0), 1, 8) := by kernel_rfl
def ints (l : List Nat) : List Value := l.map fun (i : Nat) => Value.int .i64 (i : Int)
theorem ints_length (l : List Nat) : (ints l).length = l.length := by simp [ints]
theorem one_new {w : World} {t : TypeId} {x : Value} : ∀ j u, [x][j]? = some u → (w.alloc (.cells #[x] t)).cell? ((⟨w.heap.size, 0, none⟩ : Addr).add j) = some u := by
  intro j u hu
  rw [Addr.add_lit, World.cell?_alloc_mark]
  match j, hu with
  | 0, hu => simpa using hu

/-- What To gives. -/
def ToldTo (w : World) (l : List Pk) (k : Int) (e : Ending) (w' : World) : Prop :=
  ∃ v, e = .returned v ∧ w'.ownsRow w.heap.size 3 1 v (placesTo k 0 l).length (ints (placesTo k 0 l)) ∧ Mods Nil w w'

set_option maxHeartbeats 4000000 in
theorem nto_any {w : World} {base nb nodes : Nat} {v : Value} {l : List Pk} (h : NetAt w base nb nodes v l) (hl : l.length ≤ 4096) (k : Int) :
    Calls Try.prog 14 #[.pointer (some ⟨nb, 0, none⟩), .int .i64 k] w (ToldTo w l k) := by
  obtain ⟨i0, hi, hz0, hz1, hz2⟩ := info_parts infoInt
  obtain ⟨A, c, rfl, hlc, hcm, hpl⟩ := h.place
  have hnb := h.blk.lt
  have H := Lib.hid h
  have HPL := Lib.hid hpl
  clear h hpl
  refine (callsIn_wide (n := 9)).1 ?_
  refine callsIn_of_wp_marks Try.func14 rfl trivial ?_ rfl
  simp only [Try.ntmps14, List.size_toArray, List.length_cons, List.length_nil, Nat.reduceAdd, Nat.reduceSub, Array.replicate_succ, Array.replicate_zero, List.push_toArray, List.append_toArray, List.nil_append, List.cons_append]
  gi_wp2_with (refine ⟨trivial, ?_⟩; gi_at_call 21; refine (callsIn_wide.2 (nplaces_any _ nb w.heap.size)).mono ?_; rintro e w' ⟨rfl, rfl⟩)
  have b0 := ((((Blk.new w 3 #[.int .i64 k]).alloc (.cells #[.slice none 0 0] 40)).alloc (.cells #[.pointer (some ⟨nb, 0, none⟩)] 24)).alloc (.cells #[.func (.func 22) #[] #[.pointer (some ⟨w.heap.size, 0, none⟩)]] 50))
  have b1 := (((Blk.new (w.alloc (.cells #[.int .i64 k] 3)) 40 #[.slice none 0 0]).alloc (.cells #[.pointer (some ⟨nb, 0, none⟩)] 24)).alloc (.cells #[.func (.func 22) #[] #[.pointer (some ⟨w.heap.size, 0, none⟩)]] 50))
  have b2 := ((Blk.new ((w.alloc (.cells #[.int .i64 k] 3)).alloc (.cells #[.slice none 0 0] 40)) 24 #[.pointer (some ⟨nb, 0, none⟩)]).alloc (.cells #[.func (.func 22) #[] #[.pointer (some ⟨w.heap.size, 0, none⟩)]] 50))
  have b3 := (Blk.new (((w.alloc (.cells #[.int .i64 k] 3)).alloc (.cells #[.slice none 0 0] 40)).alloc (.cells #[.pointer (some ⟨nb, 0, none⟩)] 24)) 50 #[.func (.func 22) #[] #[.pointer (some ⟨w.heap.size, 0, none⟩)]])
  simp only [World.size_alloc] at b1 b2 b3
  have m0 : Mods Nil w ((((w.alloc (.cells #[.int .i64 k] 3)).alloc (.cells #[.slice none 0 0] 40)).alloc (.cells #[.pointer (some ⟨nb, 0, none⟩)] 24)).alloc (.cells #[.func (.func 22) #[] #[.pointer (some ⟨w.heap.size, 0, none⟩)]] 50)) := ((((Mods.refl _ _).alloc _).alloc _).alloc _).alloc _
  have hsz : ((((w.alloc (.cells #[.int .i64 k] 3)).alloc (.cells #[.slice none 0 0] 40)).alloc (.cells #[.pointer (some ⟨nb, 0, none⟩)] 24)).alloc (.cells #[.func (.func 22) #[] #[.pointer (some ⟨w.heap.size, 0, none⟩)]] 50)).heap.size = w.heap.size + 4 := by simp
  obtain ⟨W0, hW0⟩ : ∃ W0, ((((w.alloc (.cells #[.int .i64 k] 3)).alloc (.cells #[.slice none 0 0] 40)).alloc (.cells #[.pointer (some ⟨nb, 0, none⟩)] 24)).alloc (.cells #[.func (.func 22) #[] #[.pointer (some ⟨w.heap.size, 0, none⟩)]] 50)) = W0 := ⟨_, rfl⟩
  rw [hW0] at b0 b1 b2 b3 m0 hsz ⊢
  clear hW0
  have hgo : ∀ g, A = some ⟨g, 0, none⟩ → g < w.heap.size := fun g hg => (H.out.own.lt g (by rw [hg]; rfl)).2
  have hr : Reads W0 (w.heap.size + 1 + 1) (w.heap.size + 1 + 1 + 1) w.heap.size nb k A l.length c l := by
    refine ⟨by simpa using b2.cell 0, by simpa using b3.cell 0, by simpa using b0.cell 0, (H.out.nil m0).cells.2.1, fun h0 => ?_, rfl⟩
    obtain ⟨g, rfl, h1, h2, h3, -⟩ := HPL.out h0
    exact ⟨g, rfl, by omega, fun j u hu => (World.cell?_of_block (m0.block g h1 (fun h => h))).trans (h3 j u hu)⟩
  have HR := Lib.hid hr
  have HSZ := Lib.hid hsz
  have HGO := Lib.hid hgo
  clear b0 b2 b3 hr hgo
  refine wpIn_rangeFunc_J (n := 9) (gf := 25) (lb := #[.pointer (some ⟨w.heap.size + 1 + 1, 0, none⟩), .pointer (some ⟨w.heap.size + 1 + 1 + 1, 0, none⟩)]) rfl (enters_of Try.func25 (by kernel_rfl) rfl) (encs := fun (x : Nat) => #[.int .i64 (x : Int)]) (fun _ => rfl)
    Nil (fun i => i = w.heap.size + 1 ∨ W0.heap.size + 2 ≤ i) (fun i h => h.elim) (by omega) (by omega)
    (fun pre W => (∃ v, Blk W (w.heap.size + 1) 40 #[v] ∧ W.ownsRow (W0.heap.size + 2) 3 1 v pre.length (ints pre)) ∧ Mods Nil w W)
    (fun pre x W => x < 4096 ∧ pre.length < 4096)
    (fun x a' W => a' = { tmps := #[.pointer (some ⟨nb, 0, none⟩), .int .i64 k, undef, .pointer (some ⟨w.heap.size, 0, none⟩), .slice none 0 0, .pointer (some ⟨w.heap.size + 1, 0, none⟩), .int .i64 (x : Int), .pointer (some ⟨nb, 0, none⟩), .bool false, .pointer (some ⟨nb, 0, none⟩), .func (.func 22) #[] #[.pointer (some ⟨w.heap.size, 0, none⟩)], .func (.func 25) #[] #[.pointer (some ⟨w.heap.size + 1 + 1, 0, none⟩), .pointer (some ⟨w.heap.size + 1 + 1 + 1, 0, none⟩)], .int .i64 (x : Int), undef, undef, undef, undef, undef], defers := [] })
    ?hI ?hG ?hAx (fun pre => pre = placesTo k 0 l) ?hseq ?h0 ?hassign ?hbody ?hdone
  case hI =>
    rintro pre A1 B1 ⟨⟨v, h1, h2⟩, h5⟩ hm
    refine ⟨⟨v, h1.mods hm (by rintro (h | h); exact h; omega), own_mods h2 hm (fun k hk h => ?_)⟩, h5.nil_trans hm (fun i h => by rcases h with h | h; exact h.elim; omega)⟩
    have := (h2.lt k hk).1
    rcases h with h | h
    · exact h
    · omega
  case hG => exact fun pre x A1 B1 h _ => h
  case hAx => exact fun x a' A1 B1 h _ => h
  case hseq =>
    intro J W hm hsize hJ hY hj0
    have hrW := HR.out.mods hm (fun _ h => h.elim)
    refine places1_in (W0.heap.size + 1) (w.heap.size + 1 + 1) (w.heap.size + 1 + 1 + 1) w.heap.size nb l.length c k A l W hrW hl (fun i => (i = w.heap.size + 1 ∨ W0.heap.size + 2 ≤ i) ∨ i = W0.heap.size + 1) ?_ J hJ hY hj0
    intro i hi
    have hsz' := HSZ.out
    refine ⟨by omega, by omega, by omega, by omega, fun hA => ?_⟩
    have := HGO.out i hA
    omega
  case h0 => exact ⟨⟨_, b1, World.ownsRow_nil _ _ _ _⟩, m0⟩
  case hassign =>
    intro pre x W K' hsize hi hg hK
    have HI := Lib.hid hi
    have HG := Lib.hid hg
    have HK := Lib.hid hK
    clear hi hg hK hsz b1 m0
    gi_wp2
    exact HK.out _ _ (Mods.refl _ _) HI.out HG.out rfl
  case hbody =>
    rintro pre x a' W ⟨⟨v, h1, h2⟩, h5⟩ ⟨hx, hpl⟩ rfl hsize
    have c0 := h1.cell 0
    simp at c0
    have c0' := (h1.alloc (.cells #[.int .i64 (x : Int)] 3)).cell 0
    simp at c0'
    clear hsz b1 m0
    have H1 := Lib.hid h1
    have H2 := Lib.hid h2
    have H5 := Lib.hid h5
    clear h1 h2 h5
    gi_wp2_with (gi_at_builtin; refine wpListIn_append_own _ rfl _ _ 40 rfl (W0.heap.size + 2) 3 i0 (.int .i64 0) 1 8 Try.underlying40 hi hz0 hz1 hz2 rfl (by decide) _ _ _ rfl (H2.out.alloc _) ⟨W.heap.size, 0, none⟩ 1 1 [.int .i64 (x : Int)] rfl rfl one_new (by simp [Value.oneCell']) (by unfold maxLen; omega) (by omega) (by simp; omega) ?_; intro v' w1 hown' hgrow _; obtain ⟨g', cap', rfl⟩ := ownsRow_succ hown'; have mA : Mods (fun k => v.ownBlock = some k) W w1 := ((Mods.refl _ _).alloc _).grown hgrow (fun k hk _ => hk); have b1 := H1.out.mods mA (fun h => by have := (H2.out.lt _ h).1; have := HSZ.out; omega); have e0 := b1.cell 0; have e1 := b1.frozen 0; simp at e0; have B1 := Lib.hid b1; have MA := Lib.hid mA; have HO := Lib.hid hown'; clear b1 mA hown' hgrow)
    have hsz' := HSZ.out
    have bL2 := B1.out.set_ 0 (.slice (some ⟨g', 0, none⟩) (pre.length + 1) cap')
    have mS : Mods (fun i => i = w.heap.size + 1) w1 (w1.setCell ⟨w.heap.size + 1, 0, none⟩ (.slice (some ⟨g', 0, none⟩) (pre.length + 1) cap')) := Mods.setCell (S := fun i => i = w.heap.size + 1) (Mods.refl _ _) (fun _ => rfl) _
    have mK : Mods (fun i => i = w.heap.size + 1 ∨ W0.heap.size + 2 ≤ i) W w1 := MA.out.mono (fun i _ h => .inr (H2.out.lt _ h).1)
    refine ⟨mK.trans (mS.mono (fun i _ h => .inl h)), ⟨_, by simpa using bL2, ?_⟩, ?_⟩
    · have := own_mods HO.out mS (fun k hk h => by have := (HO.out.lt k hk).1; omega)
      simpa [ints] using this
    · exact (H5.out.nil_trans mK (fun i h => by omega)).nil_trans mS (fun i h => by omega)
  case hdone =>
    rintro pre W hp ⟨⟨v, h1, h2⟩, h5⟩ hK
    subst hp
    have c0 := h1.cell 0
    simp at c0
    have H2 := Lib.hid h2
    have H5 := Lib.hid h5
    clear hsz b1 m0 h1 h2 h5
    gi_wp2
    have mF : Mods (fun i => i = W0.heap.size) W (W.putObj W0.heap.size (.deferred none)) := Mods.putObj (S := fun i => i = W0.heap.size) (Mods.refl _ _) (fun _ => rfl) _
    have hsz' := HSZ.out
    refine ⟨by simp, .inl ⟨_, _, rfl, run_takeDeferred hK, ?_⟩⟩
    refine ⟨_, results_tmp rfl _ _ _, v, rfl, own_mods (own_rebase H2.out (by omega)) mF (fun k hk h => by have := (H2.out.lt k hk).1; omega), H5.out.nil_trans mF (fun i h => by omega)⟩
end Go.Proofs.Ytglaenoaeiendaa
