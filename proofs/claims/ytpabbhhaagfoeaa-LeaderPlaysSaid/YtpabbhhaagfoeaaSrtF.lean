/- slices.AppendSeq, Collect, Sorted of numbers (uint64), against whatever iterator that keeps its word. -/
import Derived.Test.YtpabbhhaagfoeaaSrtE
import Derived.Test.YtpabbhhaagfoeaaSrtM3
import Derived.Test.YtpabbhhaagfoeaaClone
import Derived.Maps.AppendAt
namespace Go.Proofs.Ytpabbhhaagfoeaa
set_option maxRecDepth 100000
open Go.RowKit Go.Maps Go.Shelf
set_option linter.unusedVariables false
set_option linter.unusedSimpArgs false
attribute [local go_sem] Oper.semAt_some
/-- An iterator's word: from w on, whoever's rounds keep theirs, it tells numbers of which S holds. -/
def SeqU (g : Nat) (lb : Array Value) (S : List Int → Prop) (N : Nat) (w : World) : Prop :=
  ∀ (l B : Nat) (W : World), Mods Nil w W → B ≤ W.heap.size → ∀ (J : List Int → World → Prop), (∀ pre A C, J pre A → Mods (fun k => B ≤ k ∧ walkAt A k) A C → J pre C) →
    (∀ pre x W1, J pre W1 → (pre.length < N ∧ inU x) → YieldAt Fence.wide 7 Try.prog l #[nU x] W1 fun e W' => e = .returned (.bool true) ∧ J (pre ++ [x]) W' ∧ KeepsWalks W1 W') → J [] W →
    CallsIn Fence.wide 8 Try.prog g (#[.func (.yield l) #[] #[]] ++ lb) W fun e W' => (∃ v, e = .returned v) ∧ ∃ ss, S ss ∧ J ss W'
theorem SeqU.later {g : Nat} {lb : Array Value} {S : List Int → Prop} {N : Nat} {w w' : World} (h : SeqU g lb S N w) (hm : Mods Nil w w') : SeqU g lb S N w' :=
  fun l B W hW hB J hJ hY h0 => h l B W (hm.trans hW) hB J hJ hY h0
theorem skeys_seq {Bm b n : Nat} {f : Value → Option Value} {w : World} (hBm : Bm < w.heap.size) (hm : w.cell? ⟨Bm, 0, none⟩ = some (.map (some b))) (hM : KMap Try.prog 28 w b n f) :
    SeqU 65 #[.pointer (some ⟨Bm, 0, none⟩)] (Keys f) n w :=
  fun l B W hW hB J hJ hY h0 => skeys1_in l Bm b n B f W ((World.cell?_of_block (hW.block Bm hBm (fun h => h))).trans hm) (hM.mods hW (fun h => h)) hB J hJ hY h0
set_option maxHeartbeats 1000000 in
theorem skeys_seq0 {Bm : Nat} {w : World} (hBm : Bm < w.heap.size) (hm : w.cell? ⟨Bm, 0, none⟩ = some (.map none)) :
    SeqU 65 #[.pointer (some ⟨Bm, 0, none⟩)] (fun ss => ss = []) 0 w := by
  intro l B W hW hB J hJ hY h0
  have hm1 : W.cell? ⟨Bm, 0, none⟩ = some (.map none) := (World.cell?_of_block (hW.block Bm hBm (fun h => h))).trans hm
  have HJ := Lib.hid hJ
  clear hJ hY hm
  show CallsIn Fence.wide 8 Try.prog 65 #[.func (.yield l) #[] #[], .pointer (some ⟨Bm, 0, none⟩)] W _
  refine callsIn_of_wp Try.func65 rfl trivial ?_ rfl
  simp only [Try.ntmps65, List.size_toArray, List.length_cons, List.length_nil, Nat.reduceAdd, Nat.reduceSub, Array.replicate_succ, Array.replicate_zero, List.push_toArray, List.append_toArray, List.nil_append, List.cons_append]
  have hrg := run_range_nilMap (P := Try.prog) W 87 28 49 Try.underlying87
  have hnx : ∀ ty, (Instr.next (.pointer (some ⟨W.heap.size, 0, none⟩)) false ty).run Try.prog (W.alloc (.mapIter none 0 #[] 0)) = _ := fun ty => run_next_nilMap _ ty 0 0 #[]
  gi_wp2
  refine wpIn_loop_rounds 1 ?_
  rw [roundsIn_succ]
  gi_wp2
  go_end0
  exact ⟨⟨_, rfl⟩, [], rfl, HJ.out [] W _ h0 ((Mods.refl _ _).alloc _)⟩
theorem own_formU {w : World} {base n size : Nat} {e : TypeId} {v : Value} {xs : List Value} (h : w.ownsRow base e size v n xs) : ∃ A c, v = .slice A n c := by
  rcases h.2 with ⟨rfl, hx⟩ | ⟨g, cap, cur, rfl, _⟩
  · subst hx; exact ⟨_, _, rfl⟩
  · exact ⟨_, _, rfl⟩
theorem infoU : (Try.prog.info? 28).map (fun i => (i.zero, i.size, i.bytes)) = some (some (.int .u64 0), 1, 8) := by kernel_rfl
set_option maxHeartbeats 4000000 in
theorem sappend_any {w : World} {g : Nat} {lb : Array Value} {S : List Int → Prop} {N : Nat} (hN : N ≤ 1000000) (eg : ∀ args w, (callFunc g args).run Try.prog w = .ok (.enter g args) w) (h : SeqU g lb S N w) :
    Calls Try.prog 62 #[.slice none 0 0, .func (.func g) #[] lb] w fun e w' => ∃ v ss, e = .returned v ∧ S ss ∧ w'.ownsRow w.heap.size 28 1 v ss.length (ss.map nU) ∧ Mods Nil w w' := by
  obtain ⟨i0, hi, hz0, hz1, hz2⟩ := info_parts infoU
  have HS := Lib.hid h
  have HEG := Lib.hid eg
  clear h eg
  refine (callsIn_wide (n := 9)).1 ?_
  refine callsIn_of_wp_marks Try.func62 rfl trivial ?_ rfl
  simp only [Try.ntmps62, List.size_toArray, List.length_cons, List.length_nil, Nat.reduceAdd, Nat.reduceSub, Array.replicate_succ, Array.replicate_zero, List.push_toArray, List.append_toArray, List.nil_append, List.cons_append]
  gi_wp2
  have bS := Blk.new w 66 #[.slice none 0 0]
  have m0 : Mods Nil w (w.alloc (.cells #[.slice none 0 0] 66)) := (Mods.refl _ _).alloc _
  have hsz : (w.alloc (.cells #[.slice none 0 0] 66)).heap.size = w.heap.size + 1 := by simp
  obtain ⟨W0, hW0⟩ : ∃ W0, w.alloc (.cells #[.slice none 0 0] 66) = W0 := ⟨_, rfl⟩
  rw [hW0] at bS m0 hsz ⊢
  clear hW0
  have HSZ := Lib.hid hsz
  refine wpIn_rangeFunc_W (n := 9) (gf := g) (lb := lb) rfl HEG.out (encs := fun x => #[nU x]) (fun _ => rfl)
    (fun pre W => (∃ v, Blk W w.heap.size 66 #[v] ∧ W.ownsRow (W0.heap.size + 2) 28 1 v pre.length (pre.map nU)) ∧ Mods Nil w W)
    (fun pre x => pre.length < N ∧ inU x)
    (fun x a' W => a' = { tmps := #[.slice none 0 0, .func (.func g) #[] lb, .pointer (some ⟨w.heap.size, 0, none⟩), undef, .slice none 0 0, .int .u64 x, .func (.func g) #[] lb, .int .u64 x, undef, undef, undef, undef, undef], defers := [] })
    ?hI ?hAx S ?hseq ?h0 ?hassign ?hbody ?hdone
  case hI =>
    rintro pre A1 B1 ⟨⟨v, h1, h2⟩, h5⟩ hm
    refine ⟨⟨v, h1.mods hm (fun h => by omega), own_mods h2 hm (fun k hk h => ?_)⟩, h5.nil_trans hm (fun i h => by omega)⟩
    rcases h with ⟨_, hwk⟩ | h
    · obtain ⟨_, cs, hcs⟩ := own_kind h2 k hk
      exact walkAt.ne hcs rfl hwk
    · have := (h2.lt k hk).1
      omega
  case hAx => exact fun x a' A1 B1 h hm => h
  case hseq =>
    intro J W hm hsize hJ hY hj0
    exact HS.out (W0.heap.size + 1) (W0.heap.size + 2) W (m0.trans hm) hsize J hJ hY hj0
  case h0 => exact ⟨⟨_, bS, World.ownsRow_nil _ _ _ _⟩, m0⟩
  case hassign =>
    intro pre x W K' hsize hi hg hK
    have HI := Lib.hid hi
    have HK := Lib.hid hK
    clear hi hK hsz bS m0
    gi_wp2
    exact HK.out _ _ (Mods.refl _ _) HI.out rfl
  case hbody =>
    rintro pre x a' W ⟨⟨v, h1, h2⟩, h5⟩ ⟨g1, g2⟩ rfl hsize ⟨lo, hlo⟩ hmk
    have c0 := h1.cell 0
    have f0 := h1.frozen 0
    simp at c0
    have H1 := Lib.hid h1
    have H2 := Lib.hid h2
    have H5 := Lib.hid h5
    have HLO := Lib.hid hlo
    have HMK := Lib.hid hmk
    clear hsz bS m0 h1 h2 h5 hlo hmk
    gi_wp2_with (gi_at_builtin; refine wpListIn_append_own _ rfl _ _ 66 rfl (W0.heap.size + 2) 28 i0 (.int .u64 0) 1 8 Try.underlying66 hi hz0 hz1 hz2 rfl (by decide) _ _ _ rfl (H2.out.alloc _) ⟨W.heap.size, 0, none⟩ 1 1 [.int .u64 x] rfl rfl (cell_one_new _ _ _) (by simp [Value.oneCell']) (by unfold maxLen; omega) (by omega) (by simp; omega) ?_; intro v' w1 hown' hgrow _; have mA : Mods (fun k => v.ownBlock = some k) W w1 := ((Mods.refl _ _).alloc _).grown hgrow (fun k hk _ => hk); have b1 := H1.out.mods mA (fun h => by have := (H2.out.lt _ h).1; have := HSZ.out; omega); have e0 := b1.cell 0; have e1 := b1.frozen 0; simp at e0; obtain ⟨A1, cc1, rfl⟩ : ∃ A c, v' = .slice A (pre.length + 1) c := own_formU hown'; have B1 := Lib.hid b1; have MA := Lib.hid mA; have HO := Lib.hid hown'; clear b1 mA hown' hgrow)
    have hsz' := HSZ.out
    have bL2 := B1.out.set_ 0 (.slice A1 (pre.length + 1) cc1)
    have mS : Mods (fun k => k = w.heap.size) w1 (w1.setCell ⟨w.heap.size, 0, none⟩ (.slice A1 (pre.length + 1) cc1)) := Mods.setCell (S := fun k => k = w.heap.size) (Mods.refl _ _) (fun _ => rfl) _
    have mT : Mods (fun k => v.ownBlock = some k ∨ k = w.heap.size) W (w1.setCell ⟨w.heap.size, 0, none⟩ (.slice A1 (pre.length + 1) cc1)) := (MA.out.mono (fun _ _ h => .inl h)).trans (mS.mono (fun _ _ h => .inr h))
    have hcl : ∀ k, (v.ownBlock = some k ∨ k = w.heap.size) → ∃ cs t, W.heap[k]? = some (.cells cs t (0, 0)) := by
      rintro k (hk | rfl)
      · obtain ⟨_, cs, hcs⟩ := own_kind H2.out k hk
        exact ⟨cs, _, hcs⟩
      · exact ⟨_, _, H1.out⟩
    refine ⟨KeepsWalks.of_mods mT (fun k o hk ho => ?_), mT.block _ (by omega) (fun h => ?_), mT.block _ (by omega) (fun h => ?_), ⟨_, by simpa using bL2, ?_⟩, ?_⟩
    · obtain ⟨cs, t, hc⟩ := hcl k hk
      rw [hc] at ho
      injection ho with ho
      subst ho
      rfl
    · obtain ⟨cs, t, hc⟩ := hcl _ h
      rw [HLO.out] at hc
      cases hc
    · obtain ⟨cs, t, hc⟩ := hcl _ h
      rw [HMK.out] at hc
      cases hc
    · have := own_mods HO.out mS (fun k hk h => by have := (HO.out.lt k hk).1; omega)
      simpa using this
    · exact H5.out.nil_trans mT (fun i h => by
        rcases h with h | h
        · have := (H2.out.lt i h).1; omega
        · omega)
  case hdone =>
    rintro ss W hS ⟨⟨v, h1, h2⟩, h5⟩ hK
    have c0 := h1.cell 0
    simp at c0
    have H2 := Lib.hid h2
    have H5 := Lib.hid h5
    clear hsz bS m0 h1 h2 h5
    gi_wp2
    have mF : Mods (fun k => k = W0.heap.size) W (W.putObj W0.heap.size (.deferred none)) := Mods.putObj (S := fun k => k = W0.heap.size) (Mods.refl _ _) (fun _ => rfl) _
    have hsz' := HSZ.out
    refine ⟨by simp, .inl ⟨_, _, rfl, run_takeDeferred hK, ?_⟩⟩
    exact ⟨_, results_tmp rfl _ _ _, v, ss, rfl, hS, own_mods (own_rebase H2.out (by omega)) mF (fun k hk h => by have := (H2.out.lt k hk).1; omega), H5.out.nil_trans mF (fun i h => by omega)⟩
theorem scollect_any {w : World} {g : Nat} {lb : Array Value} {S : List Int → Prop} {N : Nat} (hN : N ≤ 1000000) (eg : ∀ args w, (callFunc g args).run Try.prog w = .ok (.enter g args) w) (h : SeqU g lb S N w) :
    Calls Try.prog 57 #[.func (.func g) #[] lb] w fun e w' => ∃ v ss, e = .returned v ∧ S ss ∧ w'.ownsRow w.heap.size 28 1 v ss.length (ss.map nU) ∧ Mods Nil w w' := by
  have HC := Lib.hid (sappend_any hN eg h)
  clear h eg
  go_enter Try.func57, Try.ntmps57
  go_wp2_with (go_at_call 62; refine HC.out.mono ?_; rintro e w' ⟨v, ss, rfl, hS, ho, hm⟩; have HS := Lib.hid hS; have HO := Lib.hid ho; have HM := Lib.hid hm; clear hS ho hm)
  go_ret
  exact ⟨v, ss, rfl, HS.out, HO.out, HM.out⟩
theorem ssorted_any {w : World} {g : Nat} {lb : Array Value} {S : List Int → Prop} {N : Nat} (hN : N ≤ 1000000) (eg : ∀ args w, (callFunc g args).run Try.prog w = .ok (.enter g args) w) (h : SeqU g lb S N w) (hS : ∀ ss, S ss → ss.length ≤ 1000000) :
    Calls Try.prog 48 #[.func (.func g) #[] lb] w fun e w' => ∃ v ss, e = .returned v ∧ S ss ∧ w'.ownsRow w.heap.size 28 1 v ss.length ((ss.mergeSort fun x y => decide (x ≤ y)).map nU) ∧ Mods Nil w w' := by
  have HC := Lib.hid (scollect_any hN eg h)
  have HL := Lib.hid hS
  clear h eg hS
  go_enter Try.func48, Try.ntmps48
  go_wp2_with (first
    | (go_at_call 57; refine HC.out.mono ?_; rintro e w1 ⟨v, ss, rfl, hS, ho, hm⟩; have HS := Lib.hid hS; have HO := Lib.hid ho; have HM := Lib.hid hm; clear hS ho hm)
    | (go_at_call 58; refine (ssort_own (xs := ss) HO.out (by have := HL.out ss HS.out; omega)).mono ?_; rintro e w2 ⟨rfl, ho, hm⟩; have HO2 := Lib.hid ho; have HM2 := Lib.hid hm; clear ho hm))
  go_ret
  exact ⟨v, ss, rfl, HS.out, HO2.out, HM.out.nil_trans HM2.out (fun i h => (HO.out.lt i h).1)⟩
end Go.Proofs.Ytpabbhhaagfoeaa
