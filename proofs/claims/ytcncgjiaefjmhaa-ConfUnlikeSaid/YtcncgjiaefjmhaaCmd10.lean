/- What the statements of layer 10 share: a command as the model has it (cmdOf). -/
import Derived.Test.YtcncgjiaefjmhaaLawM10
import Derived.Test.YtcncgjiaefjmhaaRef10b
import Derived.Test.YtcncgjiaefjmhaaRef10h
import Derived.Test.YtcncgjiaefjmhaaArrM
import Derived.Test.YtcncgjiaefjmhaaQK
import Derived.Deep.QuietTactic
import Derived.BigQuiet
namespace Go.Proofs.Ytcncgjiaefjmhaa
set_option maxRecDepth 1000000
open Go.RowKit
set_option linter.unusedVariables false
set_option linter.unusedSimpArgs false

theorem OwnR.push2 {t : TypeId} {B : Nat} {W W1 W2 : World} {v v' : Value} {L : List RowP} {q : RowP} (h : OwnR t B W v L) (hq : Sl W q.A q.cap (nums q.lens)) (hx : ∀ x ∈ q.lens, x < 18446744073709551616) (hs : -9223372036854775808 ≤ q.shard ∧ q.shard ≤ 9223372036854775807)
    (ho : q.off (fun k => v.ownBlock = some k)) (hm : Mods Nil W W1) (hown : W2.ownsRow B t 2 v' (L.length + 1) (rcs L ++ [.int .i64 q.shard, .slice q.A q.lens.length q.cap])) (hg : W1.grownBy W2 v.ownBlock) (hv : ∀ b, v'.ownBlock = some b → v.ownBlock = some b ∨ W1.heap.size ≤ b) : OwnR t B W2 v' (L ++ [q]) := by
  have hg2 : Mods (fun k => v.ownBlock = some k) W W2 := (hm.mono (fun _ _ h => h.elim)).grown hg (fun k hk _ => hk)
  have hall : ∀ r ∈ L ++ [q], Sl W r.A r.cap (nums r.lens) ∧ r.off (fun k => v.ownBlock = some k) := fun r hr => by
    rcases List.mem_append.1 hr with hr | hr
    · exact ⟨h.lens r hr, h.off r hr⟩
    · rw [List.mem_singleton.1 hr]; exact ⟨hq, ho⟩
  refine ⟨?_, ?_, ?_, ?_, ?_⟩
  · rw [rcs_append, List.length_append]; exact hown
  · intro r hr; exact (hall r hr).1.mods' hg2 (fun hne a ha => (hall r hr).2 hne a ha)
  · intro r hr
    rcases List.mem_append.1 hr with hr | hr
    · exact h.lt r hr
    · rw [List.mem_singleton.1 hr]; exact hx
  · intro r hr
    rcases List.mem_append.1 hr with hr | hr
    · exact h.sh r hr
    · rw [List.mem_singleton.1 hr]; exact hs
  · intro r hr hne a ha hk
    have h1 := (hall r hr).2 hne a ha
    have h2 := (hall r hr).1.old hne a ha
    rcases hv _ hk with hv | hv
    · exact h1 hv
    · have := hm.size
      omega
theorem CC_one10 (c : PC) (A : Option Addr) (n k : Nat) : (CC c A n k).all (·.oneCell') = true := by simp [CC, Value.oneCell']
theorem CC_cells10 (c : PC) (A : Option Addr) (n k : Nat) : (Value.agg (CC c A n k)).cells = CC c A n k := by simp [CC, Value.cells]
theorem CC_info10 : (Try.prog.info? 33).map (·.size) = some 7 := by kernel_rfl
/-- The boxes of the walk: what came in, the result's, the model's. -/
structure MB (w W : World) (c : PC) (A : Option Addr) (n k : Nat) (A' : Option Addr) (j k' : Nat) : Prop where
  i : Blk W w.heap.size 27 (CV c A n k)
  r : Blk W (w.heap.size + 1) 33 (CC {} none 0 0)
  c : Blk W (w.heap.size + 1 + 1) 33 (CC c A' j k')
  m : Mods Nil w W
theorem MB.new (w : World) (c : PC) (A : Option Addr) (n k : Nat) : MB w (((w.alloc (.cells (CV c A n k) 27)).alloc (.cells #[.int .i64 0, .int .u64 0, .int .u64 0, .int .i64 0, .int .i64 0, .int .u64 0, .slice none 0 0] 33)).alloc (.cells (CC c none 0 0) 33)) c A n k none 0 0 := by
  have h1 := ((Blk.new w 27 (CV c A n k)).alloc (.cells #[.int .i64 0, .int .u64 0, .int .u64 0, .int .i64 0, .int .i64 0, .int .u64 0, .slice none 0 0] 33)).alloc (.cells (CC c none 0 0) 33)
  have h2 := (Blk.new (w.alloc (.cells (CV c A n k) 27)) 33 #[.int .i64 0, .int .u64 0, .int .u64 0, .int .i64 0, .int .i64 0, .int .u64 0, .slice none 0 0]).alloc (.cells (CC c none 0 0) 33)
  have h3 := Blk.new ((w.alloc (.cells (CV c A n k) 27)).alloc (.cells #[.int .i64 0, .int .u64 0, .int .u64 0, .int .i64 0, .int .i64 0, .int .u64 0, .slice none 0 0] 33)) 33 (CC c none 0 0)
  simp only [World.size_alloc] at h2 h3
  exact ⟨h1, h2, h3, (((Mods.refl _ _).alloc _).alloc _).alloc _⟩
theorem MB.far {S : Nat → Prop} {w W W' : World} {c : PC} {A A' : Option Addr} {n k j k' : Nat} (h : MB w W c A n k A' j k') (hm : Mods S W W') (hS : ∀ i, S i → w.heap.size + 3 ≤ i) : MB w W' c A n k A' j k' :=
  ⟨h.i.mods hm (fun h => by have := hS _ h; omega), h.r.mods hm (fun h => by have := hS _ h; omega), h.c.mods hm (fun h => by have := hS _ h; omega), h.m.nil_trans hm (fun i h => by have := hS _ h; omega)⟩
theorem MB.set {w W : World} {c : PC} {A A' : Option Addr} {n k j k' : Nat} (h : MB w W c A n k A' j k') (A2 : Option Addr) (j2 k2 : Nat) : MB w (W.setCell ⟨w.heap.size + 1 + 1, 6, none⟩ (.slice A2 j2 k2)) c A n k A2 j2 k2 :=
  ⟨h.i.far (by simp; omega) _, h.r.far (by simp) _, h.c.set_ 6 (.slice A2 j2 k2), h.m.setNew (by simp; omega) _⟩
set_option maxHeartbeats 8000000 in
theorem cmdOf_any (w : World) (c : PC) {A : Option Addr} {n k : Nat} {L : List RowP} (hr : c.rows = pws L) (h : Rws w A n k L) (hn : n ≤ 100) :
    Calls Try.prog 14 #[.agg (CV c A n k)] w fun e w' => ∃ A' n' k', e = .returned (.agg (CC c A' n' k')) ∧ (∃ L', c.rows = pws L' ∧ Rws w' A' n' k' L') ∧ Mods Nil w w' := by
  obtain ⟨i0, hi, hz0, hz1, hz2⟩ := info_parts infoW
  have HI0 := Lib.hid hi
  clear hi
  have HL := Lib.hid h
  have HLN := Lib.hid h.len
  have HR := Lib.hid hr
  have G0 := Lib.hid (MB.new w c A n k)
  obtain ⟨d0, d1, d2, d3, d4, d5, d6⟩ := cv_seven ((Blk.new w 27 (CV c A n k)).alloc (.cells #[.int .i64 0, .int .u64 0, .int .u64 0, .int .i64 0, .int .i64 0, .int .u64 0, .slice none 0 0] 33))
  clear h hr
  go_enter Try.func14, Try.ntmps14
  go_wp2_with fail
  clear d0 d1 d2 d3 d4 d5 d6
  go_loopw [4] (fun x wr => ∃ (j : Nat) (A' : Option Addr) (k' : Nat), j ≤ n ∧ x = .int .i64 (j : Int) ∧ MB w wr c A n k A' j k' ∧ OwnR 70 (w.heap.size + 3) wr (.slice A' j k') (L.take j)) (fun x _ => n - (intOf x).toNat)
  case atStart => exact ⟨0, none, 0, Nat.zero_le _, rfl, G0.out, OwnR.nil _ _ _⟩
  case round =>
    obtain ⟨j, A', k', hj, rfl, g5, o5⟩ := hrel
    have G5 := Lib.hid g5
    have O5 := Lib.hid o5
    have z6 := (cv_seven g5.i).2.2.2.2.2.2
    by_cases hlt : j < n
    · have hjI : (j : Int) < (n : Int) := by omega
      obtain ⟨g, off, q, rfl, hg, hq, hc0', hc1', hs, hx, hsr⟩ := Rws.at_ HL.out hlt
      have K0 : ∀ V, Mods Nil wr V → V.cell? ⟨g, off + j * 2, none⟩ = some (.int .i64 q.shard) := fun V hV => (World.cell?_of_block ((g5.m.trans hV).block g hg (fun h => h))).trans hc0'
      have K1 : ∀ V, Mods Nil wr V → V.cell? ⟨g, off + j * 2 + 1, none⟩ = some (.slice q.A q.lens.length q.cap) := fun V hV => (World.cell?_of_block ((g5.m.trans hV).block g hg (fun h => h))).trans (by rw [Nat.add_assoc]; exact hc1')
      have K6 : ∀ V, Mods Nil wr V → V.cell? ⟨w.heap.size, 6, none⟩ = some (.slice (some ⟨g, off, none⟩) n k) := fun V hV => (cv_seven (g5.i.mods hV (fun h => h))).2.2.2.2.2.2
      have hS0 : wr.drew.cell? ⟨w.heap.size + 1 + 1, 6, none⟩ = some (.slice A' j k') := g5.c.seven.2.2.2.2.2.2
      have HS6 := Lib.hid (fun V (hV : Mods Nil wr V) => (g5.c.mods hV (fun h => h)).seven.2.2.2.2.2.2)
      have HS := Lib.hid hs
      have HX := Lib.hid hx
      have HSR := Lib.hid hsr
      have htl : (L.take j).length = j := by rw [List.length_take, HLN.out]; omega
      have HTL := Lib.hid htl
      have HSZ := Lib.hid (show w.heap.size + 3 ≤ wr.heap.size from g5.c.lt)
      have HTK : Hid (L.take (j + 1) = L.take j ++ [q]) := Lib.hid (by
        obtain ⟨hj2, e⟩ := List.getElem?_eq_some_iff.1 hq
        rw [List.take_succ_eq_append_getElem hj2, e])
      obtain ⟨m, hm⟩ : ∃ m, q.lens.length = m := ⟨_, rfl⟩
      rw [hm] at K1
      have HQM := Lib.hid hm
      clear g5 o5 hq hs hx hsr hc0' hc1' htl hm
      go_wp2_with fail
      clear z6
      refine qt_region 19 (by kernel_rfl) rfl ?_
      refine qt_take 0 18 rfl (by kernel_rfl) (by kernel_rfl) (by kernel_rfl) (fun _ _ _ h => h) (by rfl) (v := ?_) ?_ ?_
      rotate_left
      · intro V
        go_simp
        try with_reducible rfl
      simp only [List.getElem_toArray, List.getElem_cons_succ, List.getElem_cons_zero, Act.put, List.setIfInBounds_toArray, List.set_cons_zero, List.set_cons_succ]
      refine wpAny_of_K (S := fun V => V.cell? ⟨w.heap.size + 1 + 1, 6, none⟩ = some (.slice A' j k')) (k := 16) _ _ _ _ ?_
      refine qk_take 1 17 rfl (by kernel_rfl) (by kernel_rfl) (by kernel_rfl) (by kernel_rfl) (by kernel_rfl) (fun _ _ _ h => h) (by rfl) (v := ?_) ?_ hS0 ?_
      rotate_left
      · intro V hV
        go_simp
        try with_reducible rfl
      simp only [List.getElem_toArray, List.getElem_cons_succ, List.getElem_cons_zero, Act.put, List.setIfInBounds_toArray, List.set_cons_zero, List.set_cons_succ]
      clear hS0
      refine qk_quiet (fun V => Mods Nil wr V) 2 13 4 (by kernel_rfl) ((Mods.refl Nil wr).drew) (fun V hV => HS6.out V hV) ?_
      simp only [List.drop_succ_cons, List.drop_zero, List.take_succ_cons, List.take_zero]
      repeat (first
        | go_big_quiet_skip
        | (go_big_quiet_want; first
            | (refine gq_op (v := ?_) ?_ ?_; rotate_left; (focus (intro V hV; go_simp; try with_reducible rfl)); go_big_quiet_on))
          simp only [Act.put, List.setIfInBounds_toArray, List.set_cons_zero, List.set_cons_succ])
      refine wpQuiet_nil ?_
      intro V hV
      have HV := Lib.hid hV
      clear hV K0 K1 K6
      refine qk_makes 15 3 rfl (by kernel_rfl) (by rfl) (v := .slice (some ⟨V.heap.size, 0, none⟩) 1 1) (w' := V.alloc (.cells #[.int .i64 q.shard, .slice q.A m q.cap] 70)) ?_ ?_ ?_
      · go_simp
      · exact HS6.out _ (HV.out.alloc _)
      simp only [List.getElem_toArray, List.getElem_cons_succ, List.getElem_cons_zero, Act.put, List.setIfInBounds_toArray, List.set_cons_zero, List.set_cons_succ]
      refine qk_rest 2 (by decide) (by kernel_rfl) ?_
      refine qt_list 16 3 rfl (by kernel_rfl) ?_
      simp only [List.drop_succ_cons, List.drop_zero]
      have OW := Lib.hid (O5.out.nilm (HV.out.alloc (.cells #[.int .i64 q.shard, .slice q.A m q.cap] 70))).own
      rw [HTL.out] at OW
      have G6 := Lib.hid (G5.out.far (S := Nil) (HV.out.alloc (.cells #[.int .i64 q.shard, .slice q.A m q.cap] 70)) (fun _ h => h.elim))
      go_wp2_with (at_builtin; refine wpList_append_own_at _ rfl _ _ 31 rfl (w.heap.size + 3) 70 i0 (.agg #[.int .i64 0, .slice none 0 0]) 2 32 Try.underlying31 HI0.out hz0 hz1 hz2 rfl (by decide) (.slice A' j k') j (rcs (L.take j)) rfl OW.out ⟨V.heap.size, 0, none⟩ 1 1 [.int .i64 q.shard, .slice q.A m q.cap] rfl rfl (two_at10 rfl) (by simp [Value.oneCell']) (by unfold maxLen; omega) (by omega) (by have := HSZ.out; have := HV.out.size; simp; omega) ?_; intro v' w4 hown hgrow _ hblk; obtain ⟨g4, cap4, rfl⟩ := ownsRow_succ hown; have HO := Lib.hid hown; have HGR := Lib.hid hgrow; have HB := Lib.hid hblk; have g7 := G6.out.far ((Mods.refl (fun q => (Value.slice A' j k').ownBlock = some q) _).grown hgrow (fun q hq _ => hq)) (fun i h => (O5.out.own.lt i h).1); have G7 := Lib.hid g7; have y7 := g7.c.seven.2.2.2.2.2.2; have f7 := g7.c.frozen 6; clear hown hgrow hblk g7)
      have hp := OwnR.push2 (v' := .slice (some ⟨g4, 0, none⟩) (j + 1) cap4) O5.out (HS.out.mods G5.out.m (fun _ _ h => h)) HX.out HSR.out (fun hne a ha hk => by
        have h1 := (O5.out.own.lt _ hk).1
        have h2 := HS.out.old hne a ha
        omega) (HV.out.alloc (.cells #[.int .i64 q.shard, .slice q.A m q.cap] 70)) (by rw [HTL.out, HQM.out]; exact HO.out) HGR.out (fun b hb => by
        rcases HB.out with h | h
        · exact .inl (h ▸ hb)
        · right; rw [h] at hb; injection hb with hb; omega)
      have hsz := HSZ.out
      have ms : Mods (· = w.heap.size + 1 + 1) w4 (w4.setCell ⟨w.heap.size + 1 + 1, 6, none⟩ (.slice (some ⟨g4, 0, none⟩) (j + 1) cap4)) := Mods.setCell (S := (· = w.heap.size + 1 + 1)) (Mods.refl _ _) (fun _ => rfl) _
      refine ⟨?_, by simp [intOf]; omega⟩
      refine ⟨j + 1, some ⟨g4, 0, none⟩, cap4, by omega, by go_num, G7.out.set _ _ _, ?_⟩
      rw [HTK.out]
      refine hp.mods ms (fun q hq h => by have := (hp.own.lt q hq).1; omega) (fun r hr hne a ha h => ?_)
      have h1 : a.block < w.heap.size := by
        rcases List.mem_append.1 hr with hr | hr
        · have hrL : r ∈ L := List.mem_of_mem_take hr
          have hg := (HL.out.good r.fv (List.mem_map.2 ⟨r, hrL, rfl⟩)).2 (.u64s r.A r.cap r.lens) (by simp [RowP.fv])
          exact hg.1.old hne a ha
        · rw [List.mem_singleton.1 hr] at hne ha
          exact HS.out.old hne a ha
      omega
    · obtain rfl : n = j := by omega
      obtain ⟨y0, y1, y2, y3, y4, y5, y6⟩ := g5.c.seven
      have hfin : Hid (L.take n = L) := Lib.hid (List.take_of_length_le (by rw [HLN.out]; exact Nat.le_refl _))
      clear g5 o5
      go_wp2_with (refine wpList_store_row rfl _ _ _ rfl rfl (w.heap.size + 1) rfl _ (CC {} none 0 0) (CC c A' n k') rfl G5.out.r rfl (CC_one10 _ _ _ _) CC_info10 (CC_cells10 _ _ _ _) ?_)
      have bF := G5.out.r.setRow (CC c A' n k')
      have mS : Mods (· = w.heap.size + 1) wr (wr.setRow (w.heap.size + 1) (CC c A' n k')) := Mods.setRow (S := (· = w.heap.size + 1)) (Mods.refl _ _) (fun _ => rfl) _
      have mF : Mods Nil w (wr.setRow (w.heap.size + 1) (CC c A' n k')) := G5.out.m.nil_trans mS (fun i h => by omega)
      have oF := O5.out.mods mS (fun q hq h => by have := (O5.out.own.lt q hq).1; omega) (fun r hr hne a ha h => by
        have hrL : r ∈ L := List.mem_of_mem_take hr
        have hg := (HL.out.good r.fv (List.mem_map.2 ⟨r, hrL, rfl⟩)).2 (.u64s r.A r.cap r.lens) (by simp [RowP.fv])
        have := hg.1.old hne a ha
        omega)
      rw [hfin.out] at oF
      obtain ⟨A9, c9, e9, hR9, -⟩ := oF.rws
      injection e9 with e1 e2 e3
      subst e1; subst e3
      have hnL := HLN.out
      rw [hnL] at hR9
      obtain ⟨W2, hW2⟩ : ∃ W2, wr.setRow (w.heap.size + 1) (CC c A' n k') = W2 := ⟨_, rfl⟩
      rw [hW2] at bF mF hR9 ⊢
      obtain ⟨x0, x1, x2, x3, x4, x5, x6⟩ := bF.seven
      have HRR := Lib.hid hR9
      clear hW2 mS oF e2 hnL
      exact bodyPost_ret (v := .agg (CC c A' n k')) (by simp [results, Try.results14, go_sem, x0, x1, x2, x3, x4, x5, x6, CC]) rfl ⟨A', n, k', rfl, ⟨L, HR.out, HRR.out⟩, mF⟩
end Go.Proofs.Ytcncgjiaefjmhaa
