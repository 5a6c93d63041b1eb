/- Texts laid as one: Disk7, Disk8, Disk9. -/
import Derived.Test.YtdllgmhipenidaaDiskB

section
/- Package disk: Sync. -/
namespace Go.Proofs.Ytdllgmhipenidaa
set_option maxRecDepth 100000
open Go.RowKit
set_option linter.unusedVariables false

theorem dsync_none (w : World) : Calls Try.prog 75 #[.pointer none] w fun e w' => e = .returned (.int .i64 1) ∧ w = w' := by
  go_enter Try.func75, Try.ntmps75
  go_wp2_with (go_at_call 121; refine (dup_none w).mono ?_; rintro e w1 ⟨rfl, rfl⟩)
  go_ret
  exact ⟨rfl, rfl⟩
/-- So many of the writes that wait are laid. -/
def PD.laid (d : PD) (j : Nat) : PD := { d with L := layAll d.L (d.W.take j) }
theorem PD.Ok.laid {d : PD} (h : d.Ok) (j : Nat) : (d.laid j).Ok :=
  ⟨layAll_ok h.sure (fun w hw => (h.waits w (List.mem_of_mem_take hw)).2), fun w hw => by
    have := h.waits w hw
    refine ⟨?_, this.2⟩
    show w.1 < (layAll d.L (d.W.take j)).length
    rw [layAll_length]
    exact this.1⟩
/-- One block is laid over. -/
theorem DiskIn.lay {w : World} {base db g cap : Nat} {vW : Value} {z : Int} {d : PD} (h : DiskIn w base db (.slice (some ⟨g, 0, none⟩) d.L.length cap) vW z d) {q : Nat} {b : List UInt8} (hq : q < d.L.length) (hb : b.length = 64) :
    DiskIn (w.setCells g (q * 64) (bts b)) base db (.slice (some ⟨g, 0, none⟩) d.L.length cap) vW z { d with L := d.L.set q b } ∧ DM base w (w.setCells g (q * 64) (bts b)) := by
  have hm := setCells_mods (g := g) (bts b) (q * 64) w
  have hs := own_put (f := bts) h.sure h.ok.sureL hq (bts_64 hb)
  have e1 : ∀ k, (Value.slice (some ⟨g, 0, none⟩) d.L.length cap).ownBlock = some k → k = g := fun k hk => by simp [Value.ownBlock] at hk; exact hk.symm
  refine ⟨⟨h.blk.mods hm (fun e => own_blk_ne h.sure h.blk (by decide) (by subst e; rfl)), by simpa [sureC] using hs, own_mods h.waits hm (fun k hk e => by subst e; exact own_own_ne h.waits h.sure (by decide) hk rfl), h.le, h.left, ⟨fun x hx => ?_, fun x hx => by simpa using h.ok.waits x hx⟩⟩, hm.mono (fun k _ e => by subst e; exact own_ds h.sure (.inr (.inl rfl)) _ rfl)⟩
  rcases List.mem_or_eq_of_mem_set hx with hx | rfl
  · exact h.ok.sure x hx
  · exact hb

/-- No write waits any more. -/
theorem DiskIn.clearW {w : World} {base db : Nat} {vS vW : Value} {z : Int} {d : PD} (h : DiskIn w base db vS vW z d) :
    DiskIn (w.setCell ⟨db, 1, none⟩ (.slice none 0 0)) base db vS (.slice none 0 0) z { d with W := [] } ∧ DM base w (w.setCell ⟨db, 1, none⟩ (.slice none 0 0)) := by
  have hm : Mods (fun k => k = db) w (w.setCell ⟨db, 1, none⟩ (.slice none 0 0)) := Mods.setCell (S := fun k => k = db) (p := ⟨db, 1, none⟩) (Mods.refl _ _) (fun _ => rfl) _
  exact ⟨⟨by simpa using h.blk.set_ 1 (.slice none 0 0), own_mods h.sure hm (fun k hk e => own_blk_ne h.sure h.blk (by decide) (by rw [hk, e])), World.ownsRow_nil _ _ _ _, h.le, h.left, ⟨h.ok.sure, fun x hx => by cases hx⟩⟩, hm.mono (fun k _ e => by rw [e]; exact h.ds)⟩
theorem rangeAt_of_blk {w : World} {g : Nat} {t : TypeId} {cs : List Value} (h : Blk w g t cs.toArray) : w.rangeAt g 0 cs := fun j u hu => by
  rw [h.cell]
  simpa using hu
theorem there_mods {S : Nat → Prop} {w w' : World} {g o n : Nat} (h : w.there g o n) (hm : Mods S w w') (hS : ¬ S g) : w'.there g o n := fun j hj => by
  obtain ⟨h1, h2⟩ := h j hj
  obtain ⟨u, hu⟩ := Option.isSome_iff_exists.1 h1
  have hb := hm.block g (World.block_lt_of_cell? w _ hu) hS
  refine ⟨by rw [World.cell?_of_block hb]; exact h1, ?_⟩
  simp only [World.frozen?] at h2 ⊢
  rw [hb]
  exact h2
set_option maxHeartbeats 3200000 in
theorem dsync_ok {w : World} {base db : Nat} {d : PD}
    (hC : Calls Try.prog 80 #[.pointer (some ⟨db, 0, none⟩)] w fun e w' => e = .returned (.int .i64 0) ∧ DiskAt w' base db d ∧ DM base w w')
    (hR : Calls Try.prog 121 #[.pointer (some ⟨db, 0, none⟩)] w fun e w' => e = .returned (.int .i64 0) ∧ w = w') :
    Calls Try.prog 75 #[.pointer (some ⟨db, 0, none⟩)] w fun e w' => e = .returned (.int .i64 0) ∧ DiskAt w' base db { d with L := layAll d.L d.W, W := [] } ∧ DM base w w' := by
  have HC := Lib.hid hC
  have HR := Lib.hid hR
  have hZ := zero_w
  clear hC hR
  go_enter Try.func75, Try.ntmps75
  go_wp2_with (first
    | (go_at_call 121; refine HR.out.mono ?_; rintro e w1 ⟨rfl, rfl⟩)
    | (go_at_call 80; refine HC.out.mono ?_; rintro e w2 ⟨rfl, ⟨vS, vW, z, d2⟩, m2⟩; obtain ⟨A1, cp, hvW, hcp, hcm⟩ := own_form d2.waits; obtain ⟨n, hn⟩ : ∃ n, d.W.length = n := ⟨_, rfl⟩; have c1 := d2.blk.four.1.2.1; rw [hvW, hn] at c1; have hdb := d2.blk.lt; have D2 := Lib.hid d2; have M2 := Lib.hid m2; have HN := Lib.hid hn; have HVW := Lib.hid hvW; have HN63 := Lib.hid (show (n : Int) ≤ 9223372036854775807 by unfold maxLen at hcm; omega); clear d2 m2 hn hvW hcp hcm))
  go_loopw [22] (fun x wr => ∃ (j : Nat), j ≤ n ∧ x = .int .i64 (j : Int) ∧ DiskIn wr base db vS vW z (d.laid j) ∧ DM base w2 wr) (fun x _ => n - (intOf x).toNat)
  case atStart => exact ⟨0, Nat.zero_le _, rfl, D2.out, DM.refl _ _⟩
  case round =>
    obtain ⟨j, hj, rfl, hd, hmo⟩ := hrel
    have HD := Lib.hid hd
    have HM := Lib.hid hmo
    clear hd hmo
    by_cases hlt : j < n
    · have hltI : (j : Int) < (n : Int) := by omega
      have hpW : j < d.W.length := by rw [HN.out]; omega
      obtain ⟨gW, capW, hvW, rW, -, -⟩ := HD.out.rowW (k := j) hpW
      obtain ⟨⟨q, b⟩, hqb⟩ : ∃ x, d.W[j] = x := ⟨_, rfl⟩
      have hqb2 : (d.laid j).W[j]'hpW = (q, b) := hqb
      rw [hqb2] at rW
      have hok := HD.out.ok.waits _ (List.getElem_mem (l := (d.laid j).W) hpW)
      rw [hqb2] at hok
      obtain ⟨hq, hbl⟩ := hok
      dsimp only at hq hbl
      obtain ⟨gS, capS, hvS, -, tS, hgd, hgS⟩ := HD.out.rowS hq
      have hvW2 : Value.slice A1 n cp = Value.slice (some ⟨gW, 0, none⟩) n capW := by rw [← HN.out]; exact HVW.out.symm.trans hvW
      injection hvW2 with hA1 hA2 hA3
      subst hA1; subst hA3
      have RW := Lib.hid rW
      have TS := Lib.hid tS
      have HVS := Lib.hid hvS
      have HQ := Lib.hid hq
      have HQB := Lib.hid (show d.W[j]? = some (q, b) by rw [List.getElem?_eq_getElem hpW, hqb])
      have HWI : (Try.prog.info? 135).map (·.size) = some (wC (q, b)).length := by simpa [wC, hbl] using infoWrite2
      have HWJ : (Try.prog.info? 135).map (·.size) = some (wC (q, b)).toArray.size := by simpa using HWI
      have HBI : (Try.prog.info? 133).map (·.size) = some (bts b).length := by rw [bts_length, hbl]; exact infoBlock2
      have HBJ : (Try.prog.info? 133).map (·.size) = some (bts b).toArray.size := by simpa using HBI
      clear rW tS hvS hqb hqb2 hvW hA2
      clear hq
      clear hpW
      go_wp2_with (first
        | (refine wpList_load_mid rfl 135 (.tmp 24) rfl gW (j * 65) rfl (wC (q, b)) _ RW.out Try.underlying135 rfl HWI ?_)
        | (refine wpList_store_mk rfl 135 (.tmp 6) (.tmp 25) rfl rfl wr.heap.size rfl 135 (wZ 0) (wC (q, b)).toArray rfl (Blk.new wr 135 (wZ 0)) (by simp [wZ, wC, hbl]) (all_oneCell_toArray (wC_one _)) HWJ (by simp [Value.cells]) ?_; intro W3 b3 m3; have B3 := Lib.hid b3; have M3 := Lib.hid (((Mods.refl Nil wr).alloc _).trans2 m3 (fun i hi e => by subst e; exact Nat.lt_irrefl _ hi)); clear b3 m3))
      obtain ⟨m, hm⟩ : ∃ m, (d.laid j).L.length = m := ⟨_, rfl⟩
      have D3 := (HD.out.nil M3.out).nil (Mods.refl Nil W3).drew
      have c0 := D3.blk.four.1.1
      rw [HVS.out, hm] at c0
      have hqm : q < m := by rw [← hm]; exact HQ.out
      have hqmI : (q : Int) < (m : Int) := by omega
      have RB := rangeAt_of_blk B3.out.drew
      obtain ⟨e0, RB2⟩ := wC_parts RB
      dsimp only at e0 RB2
      rw [Nat.zero_add] at RB2
      have RR := Lib.hid RB2
      have TT := Lib.hid (there_mods (there_mods TS.out M3.out (fun h => h)) (Mods.refl Nil W3).drew (fun h => h))
      have DL := Lib.hid ((HVS.out ▸ D3).lay HQ.out hbl)
      have HMM := Lib.hid hm
      clear D3 RB RB2 hm
      refine wp_region_still_tail 9 (by kernel_rfl) (by kernel_rfl) ?_
      show wpStill _ _ W3.drew _ _ _
      simp only [List.take_succ_cons, List.take_zero, List.drop_succ_cons, List.drop_zero]
      iterate 7 still_step
      refine wpStill_load_mid rfl 133 (.tmp 32) rfl wr.heap.size 1 rfl (bts b) _ RR.out Try.underlying133 rfl HBI ?_
      still_step
      refine wpStill_nil ?_
      refine wpList_store_mid rfl 133 (.tmp 34) (.tmp 33) rfl gS (q * 64) (bts b).toArray rfl rfl (by simpa [hbl] using TT.out) HBJ (all_oneCell_toArray (bts_one _)) ?_
      go_wp2_with fail
      have hn63 := HN63.out
      have hL : (d.laid (j + 1)) = { d.laid j with L := (d.laid j).L.set q b } := by
        unfold PD.laid
        dsimp only
        have := List.getElem?_eq_some_iff.1 HQB.out
        rw [List.take_succ_eq_append_getElem this.1, this.2, layAll_snoc]
      have e1 : wrap64 ((j : Int) + 1) = ((j + 1 : Nat) : Int) := by unfold wrap64; omega
      rw [e1]
      refine ⟨⟨j + 1, by omega, rfl, ?_, (((HM.out.trans (DM.nil M3.out)).trans (DM.nil (Mods.refl Nil W3).drew)).trans DL.out.2)⟩, by simp [intOf]; omega⟩
      rw [hL, HVS.out]
      exact DL.out.1
    · obtain rfl : j = n := by omega
      have DC := Lib.hid HD.out.clearW
      have k1 := HD.out.blk.four.1.2.1
      rw [HVW.out, HN.out] at k1
      have f1 := HD.out.blk.four.2.2.1
      have e : (d.laid j).L = layAll d.L d.W := by unfold PD.laid; dsimp only; rw [List.take_of_length_le (by rw [HN.out]; exact Nat.le_refl _)]
      have HE := Lib.hid e
      clear e
      go_wp2_with fail
      go_ret
      have h1 := DC.out.1
      rw [HE.out] at h1
      exact ⟨rfl, ⟨vS, _, z, h1⟩, (M2.out.trans HM.out).trans DC.out.2⟩
theorem dsync_any {w : World} {base db : Nat} {d : PD} (h : DiskAt w base db d) : Calls Try.prog 75 #[.pointer (some ⟨db, 0, none⟩)] w fun e w' => e = .returned (.int .i64 d.sync.2) ∧ DiskAt w' base db d.sync.1 ∧ DM base w w' := by
  have HU := Lib.hid (dup_any h)
  have HC := Lib.hid (dcount_any h)
  unfold PD.sync
  unfold PD.up at HU
  cases hd : d.down with
  | true =>
    rw [hd] at HU
    simp only [if_true]
    have H := Lib.hid h
    clear h hd HC
    go_enter Try.func75, Try.ntmps75
    go_wp2_with (go_at_call 121; refine HU.out.mono ?_; rintro e w1 ⟨rfl, rfl⟩)
    go_ret
    exact ⟨rfl, H.out, DM.refl _ _⟩
  | false =>
    rw [hd] at HU
    simp only [Bool.false_eq_true, if_false]
    by_cases hc : d.count.2 = 0
    · rw [if_neg (by simp [hc])]
      rw [hc] at HC
      have := dsync_ok HC.out HU.out
      rw [d.count_L.1, d.count_L.2] at this
      exact this
    · rw [if_pos hc]
      have hc' : (d.count.2 != 0) = true := by simpa using hc
      generalize d.count.2 = x at *
      clear h hd hc
      go_enter Try.func75, Try.ntmps75
      go_wp2_with (first
        | (go_at_call 121; refine HU.out.mono ?_; rintro e w1 ⟨rfl, rfl⟩)
        | (go_at_call 80; refine HC.out.mono ?_; rintro e w2 ⟨rfl, d2, m2⟩; have D2 := Lib.hid d2; have M2 := Lib.hid m2; clear d2 m2))
      go_ret
      exact ⟨rfl, D2.out, M2.out⟩
end Go.Proofs.Ytdllgmhipenidaa
end

section
/- Package disk: Crash. -/
namespace Go.Proofs.Ytdllgmhipenidaa
set_option maxRecDepth 100000
open Go.RowKit
set_option linter.unusedVariables false

theorem dcrash_none (w : World) (B : Value) : Calls Try.prog 29 #[.pointer none, B] w fun e w' => e = .returned (.tuple #[]) ∧ w = w' := by
  go_enter Try.func29, Try.ntmps29
  go_wp2
  refine bodyPost_ret (results_none rfl _ _ _) rfl ?_
  exact ⟨rfl, rfl⟩
theorem crashF_snoc (x : Nat × List UInt8) : ∀ (W : List (Nat × List UInt8)) (L : List (List UInt8)) (ps : List UInt8),
    crashF L (W ++ [x]) ps = (crashF L W ps).set x.1 (tear (frontN ps W.length) x.2 ((crashF L W ps).getD x.1 []))
  | [], L, ps => by
    have e : ps.headD 0 = ps.getD 0 0 := by cases ps <;> rfl
    simp only [List.nil_append, crashF, frontN, List.length_nil, e]
  | y :: W, L, ps => by
    have e : ∀ n, ps.tail.getD n 0 = ps.getD (n + 1) 0 := fun n => by cases ps <;> simp
    simp only [List.cons_append, crashF, crashF_snoc x W, frontN, List.length_cons, e]
theorem frontN_le (ps : List UInt8) (k : Nat) : frontN ps k ≤ 64 := by unfold frontN; omega
/-- So many of the writes that waited are laid, as a crash lays them. -/
def PD.torn (d : PD) (ps : List UInt8) (j : Nat) : PD := { d with L := crashF d.L (d.W.take j) ps }
theorem crashF_length (L : List (List UInt8)) (W : List (Nat × List UInt8)) (ps : List UInt8) : (crashF L W ps).length = L.length := by rw [crashF_eq, crashL_length]
theorem PD.torn_next {d : PD} {ps : List UInt8} {j q : Nat} {b : List UInt8} (h : d.W[j]? = some (q, b)) : d.torn ps (j + 1) = { d.torn ps j with L := (d.torn ps j).L.set q (tear (frontN ps j) b ((d.torn ps j).L.getD q [])) } := by
  obtain ⟨h1, h2⟩ := List.getElem?_eq_some_iff.1 h
  unfold PD.torn
  dsimp only
  rw [List.take_succ_eq_append_getElem h1, h2, crashF_snoc]
  simp [Nat.min_eq_left (Nat.le_of_lt h1)]
theorem sure_tear {L : List (List UInt8)} (hL : ∀ b ∈ L, (bts b).length = 64) {q f : Nat} (hq : q < L.length) {b : List UInt8} (hb : b.length = 64) (hf : f ≤ 64) :
    (sureC L).take (q * 64) ++ bts (b.take f) ++ (sureC L).drop (q * 64 + f) = sureC (L.set q (tear f b (L.getD q []))) := by
  obtain ⟨x, hx⟩ : ∃ x, L[q] = x := ⟨_, rfl⟩
  have hxg : L.getD q [] = x := by rw [← hx]; simp [hq]
  have hxl : x.length = 64 := by have := hL x (by rw [← hx]; exact List.getElem_mem hq); simpa using this
  rw [hxg]
  have e0 := flat_set (f := bts) (s := 64) hL q hq x (by simp [hxl])
  have e1 := flat_set (f := bts) (s := 64) hL q hq (tear f b x) (by rw [bts_length]; exact tear_length hb hxl hf)
  have hself : L.set q x = L := by rw [← hx]; simp
  rw [hself] at e0
  change (sureC L).take (q * 64) ++ bts x ++ (sureC L).drop (q * 64 + 64) = sureC L at e0
  change (sureC L).take (q * 64) ++ bts (tear f b x) ++ (sureC L).drop (q * 64 + 64) = sureC (L.set q (tear f b x)) at e1
  rw [← e1]
  have hl : ((sureC L).take (q * 64)).length = q * 64 := by
    have h1 := flat_length (f := bts) hL
    have h2 : q * 64 + 64 ≤ L.length * 64 := by omega
    unfold sureC
    rw [List.length_take]
    omega
  have e2 : (sureC L).drop (q * 64 + f) = bts (x.drop f) ++ (sureC L).drop (q * 64 + 64) := by
    have hh : ((sureC L).take (q * 64) ++ (bts x ++ (sureC L).drop (q * 64 + 64))).drop (q * 64 + f) = (bts x ++ (sureC L).drop (q * 64 + 64)).drop f := by
      rw [List.drop_append, hl, List.drop_eq_nil_of_le (by omega), List.nil_append]
      congr 1
      omega
    rw [← List.append_assoc, e0] at hh
    rw [hh, List.drop_append_of_le_length (by simp [hxl]; exact hf), bts_drop]
  rw [e2]
  unfold tear
  rw [bts_append]
  simp
theorem DiskIn.tearIn {w : World} {base db g cap : Nat} {vW : Value} {z : Int} {d : PD} (h : DiskIn w base db (.slice (some ⟨g, 0, none⟩) d.L.length cap) vW z d) {q f : Nat} {b : List UInt8} (hq : q < d.L.length) (hb : b.length = 64) (hf : f ≤ 64) {cur : Array Value} (hB : Blk w g 133 cur) :
    DiskIn (w.setRow g (cur.toList.take (q * 64) ++ bts (b.take f) ++ cur.toList.drop (q * 64 + f)).toArray) base db (.slice (some ⟨g, 0, none⟩) d.L.length cap) vW z { d with L := d.L.set q (tear f b (d.L.getD q [])) } ∧ DM base w (w.setRow g (cur.toList.take (q * 64) ++ bts (b.take f) ++ cur.toList.drop (q * 64 + f)).toArray) := by
  have hbl : (bts (b.take f)).length = f := by simp [hb]; omega
  have hm : Mods (fun k => k = g) w (w.setRow g (cur.toList.take (q * 64) ++ bts (b.take f) ++ cur.toList.drop (q * 64 + f)).toArray) := Mods.setRow (S := fun k => k = g) (Mods.refl _ _) (fun _ => rfl) _
  have hs := own_row h.sure hB (o := q * 64) (vs := bts (b.take f)) (by rw [hbl]; omega)
  rw [hbl, sure_tear h.ok.sureL hq hb hf] at hs
  have hx : (d.L.getD q []).length = 64 := by
    have : d.L.getD q [] = d.L[q] := by simp [hq]
    rw [this]; exact h.ok.sure _ (List.getElem_mem _)
  refine ⟨⟨h.blk.mods hm (fun e => own_blk_ne h.sure h.blk (by decide) (by subst e; rfl)), by simpa using hs, own_mods h.waits hm (fun k hk e => by subst e; exact own_own_ne h.waits h.sure (by decide) hk rfl), h.le, h.left, ⟨fun x hx2 => ?_, fun x hx2 => by simpa using h.ok.waits x hx2⟩⟩, hm.mono (fun k _ e => by subst e; exact own_ds h.sure (.inr (.inl rfl)) _ rfl)⟩
  rcases List.mem_or_eq_of_mem_set hx2 with hx2 | rfl
  · exact h.ok.sure x hx2
  · exact tear_length hb hx hf
/-- All that waited is gone; it is up, and doesn't stop. -/
theorem DiskIn.fresh {w : World} {base db : Nat} {vS vW : Value} {z : Int} {d : PD} (h : DiskIn w base db vS vW z d) :
    DiskIn (((w.setCell ⟨db, 1, none⟩ (.slice none 0 0)).setCell ⟨db, 2, none⟩ (.int .i64 (-1))).setCell ⟨db, 3, none⟩ (.bool false)) base db vS (.slice none 0 0) (-1) ⟨d.L, [], -1, false⟩ ∧ DM base w (((w.setCell ⟨db, 1, none⟩ (.slice none 0 0)).setCell ⟨db, 2, none⟩ (.int .i64 (-1))).setCell ⟨db, 3, none⟩ (.bool false)) := by
  obtain ⟨a1, a2⟩ := h.clearW
  obtain ⟨b1, b2⟩ := a1.setLeft (z2 := -1) (left2 := -1) ⟨by omega, .inr ⟨by omega, rfl⟩⟩
  obtain ⟨c1, c2⟩ := b1.setDown false
  exact ⟨c1, (a2.trans b2).trans c2⟩

set_option maxHeartbeats 3200000 in
theorem dcrash_any {w : World} {base db : Nat} {d : PD} (h : DiskAt w base db d) {A : Option Addr} {c m : Nat} {pick : List UInt8} (hs : Bs base w A c pick) (hm : pick.length = m) :
    Calls Try.prog 29 #[.pointer (some ⟨db, 0, none⟩), .slice A m c] w fun e w' => e = .returned (.tuple #[]) ∧ DiskAt w' base db (d.crash pick) ∧ DM base w w' := by
  obtain ⟨vS, vW, z, h⟩ := h
  obtain ⟨A1, cp, hvW, hcp, hcm⟩ := own_form h.waits
  obtain ⟨n, hn⟩ : ∃ n, d.W.length = n := ⟨_, rfl⟩
  have c1 := h.blk.four.1.2.1
  rw [hvW, hn] at c1
  have hdb := h.blk.lt
  have D2 := Lib.hid h
  have HN := Lib.hid hn
  have HVW := Lib.hid hvW
  have HN63 := Lib.hid (show (n : Int) ≤ 9223372036854775807 by unfold maxLen at hcm; omega)
  have HS := Lib.hid hs
  have HP := Lib.hid hm
  have hZ := zero_w
  clear h hn hvW hcp hcm hs hm
  go_enter Try.func29, Try.ntmps29
  go_wp2_with fail
  go_loopw [13] (fun x wr => ∃ (j : Nat), j ≤ n ∧ x = .int .i64 (j : Int) ∧ DiskIn wr base db vS vW z (d.torn pick j) ∧ DM base w wr) (fun x _ => n - (intOf x).toNat)
  case atStart => exact ⟨0, Nat.zero_le _, rfl, D2.out, DM.refl _ _⟩
  case round =>
    obtain ⟨j, hj, rfl, hd, hmo⟩ := hrel
    have HD := Lib.hid hd
    have HM := Lib.hid hmo
    clear hd hmo
    by_cases hlt : j < n
    · have hltI : (j : Int) < (n : Int) := by omega
      have hj1 : j + 1 ≤ n := hlt
      have hj2 : n - (j + 1) < n - j := by omega
      have E1 := Lib.hid (show wrap64 ((j : Int) + 1) = ((j + 1 : Nat) : Int) by have := HN63.out; unfold wrap64; omega)
      have hpW : j < d.W.length := by rw [HN.out]; omega
      obtain ⟨gW, capW, hvW, rW, -, -⟩ := HD.out.rowW (k := j) hpW
      obtain ⟨⟨q, b⟩, hqb⟩ : ∃ x, d.W[j] = x := ⟨_, rfl⟩
      have hqb2 : (d.torn pick j).W[j]'hpW = (q, b) := hqb
      rw [hqb2] at rW
      have hok := HD.out.ok.waits _ (List.getElem_mem (l := (d.torn pick j).W) hpW)
      rw [hqb2] at hok
      obtain ⟨hq, hbl⟩ := hok
      dsimp only at hq hbl
      obtain ⟨gS, capS, hvS, -, -, hgd, hgS⟩ := HD.out.rowS hq
      have hvW2 : Value.slice A1 n cp = Value.slice (some ⟨gW, 0, none⟩) n capW := by rw [← HN.out]; exact HVW.out.symm.trans hvW
      injection hvW2 with hA1 hA2 hA3
      subst hA1; subst hA3
      have RW := Lib.hid rW
      have HVS := Lib.hid hvS
      have HQ := Lib.hid hq
      have HQB := Lib.hid (show d.W[j]? = some (q, b) by rw [List.getElem?_eq_getElem hpW, hqb])
      have HWI : (Try.prog.info? 135).map (·.size) = some (wC (q, b)).length := by simpa [wC, hbl] using infoWrite2
      have HWJ : (Try.prog.info? 135).map (·.size) = some (wC (q, b)).toArray.size := by simpa using HWI
      clear rW hvS hqb hqb2 hvW hA2
      clear hq
      clear hpW
      go_wp2_with (first
        | (refine wpList_load_mid rfl 135 (.tmp 16) rfl gW (j * 65) rfl (wC (q, b)) _ RW.out Try.underlying135 rfl HWI ?_)
        | (refine wpList_store_mk rfl 135 (.tmp 5) (.tmp 17) rfl rfl wr.heap.size rfl 135 (wZ 0) (wC (q, b)).toArray rfl (Blk.new wr 135 (wZ 0)) (by simp [wZ, wC, hbl]) (all_oneCell_toArray (wC_one _)) HWJ (by simp [Value.cells]) ?_; intro W3 b3 m3; have B3 := Lib.hid b3; have M3 := Lib.hid (((Mods.refl Nil wr).alloc _).trans2 m3 (fun i hi e => by subst e; exact Nat.lt_irrefl _ hi)); clear b3 m3))
      obtain ⟨m2, hm2⟩ : ∃ m2, (d.torn pick j).L.length = m2 := ⟨_, rfl⟩
      have D3 := (HD.out.nil M3.out).nil (Mods.refl Nil W3).drew
      have c0 := D3.blk.four.1.1
      have hqm : q < m2 := by rw [← hm2]; exact HQ.out
      have hqmI : (q : Int) < (m2 : Int) := by omega
      have RB := rangeAt_of_blk B3.out.drew
      obtain ⟨e0, RB2⟩ := wC_parts RB
      dsimp only at e0 RB2
      rw [Nat.zero_add] at RB2
      obtain ⟨f, hf⟩ : ∃ f, frontN pick j = f := ⟨_, rfl⟩
      have hf64 : f ≤ 64 := by rw [← hf]; exact frontN_le _ _
      have hfI : (f : Int) ≤ 64 := by omega
      have SB : Hid (Sl W3.drew (some ⟨wr.heap.size, 1, none⟩) 64 (bts (b.take f))) := Lib.hid ⟨by simp; omega, by simp [maxLen], (fun h => by cases h), .inr ⟨_, _, rfl, fun i u hu => RB2 i u (by rw [← bts_take, List.getElem?_take] at hu; split at hu; exact hu; cases hu)⟩⟩
      have D3' := HVS.out ▸ D3
      obtain ⟨g9, cap9, cur, hv9, -, -, hB, hnc, -, hcs, -, -, -⟩ := own_place D3'.sure (by omega)
      injection hv9 with e9 _ _
      injection e9 with e9
      injection e9 with e9
      subst e9
      have BC := Lib.hid hB
      have hcl : cur.size = cap9 * 64 := hcs
      have DL := Lib.hid (D3'.tearIn HQ.out hbl hf64 hB)
      have hqL := HQ.out
      have hfit : q * 64 + f ≤ cur.size := by omega
      clear hqL hnc
      rw [HVS.out, hm2] at c0
      have HF := Lib.hid hf
      have FR := Lib.hid ((dfront_any (((HS.out.dm HM.out).nil M3.out).nil (Mods.refl Nil W3).drew).1 HP.out j).mono (fun e w' h => (⟨h.1, h.2.symm⟩ : e = .returned (.int .i64 (frontN pick j : Int)) ∧ w' = W3.drew)))
      rw [hf] at FR
      clear D3 D3' RB RB2 hm2 hB hcs hf
      refine wp_region_still_tail 13 (by kernel_rfl) (by kernel_rfl) ?_
      show wpStill _ _ W3.drew _ _ _
      simp only [List.take_succ_cons, List.take_zero, List.drop_succ_cons, List.drop_zero]
      iterate 11 still_step
      still_call FR.out
      still_step
      refine wpStill_nil ?_
      refine wpList_copy_sl rfl (.tmp 25) (.tmp 30) 42 42 rfl 5 Try.underlying42 infoByte2 gS (q * 64) 64 64 133 cur rfl BC.out (some ⟨wr.heap.size, 1, none⟩) f 64 (bts (b.take f)) rfl SB.out (by simp [hbl]; omega) (bts_one _) hf64 hfit ?_
      change wpList _ _ _ _ _ (World.setRow W3.drew gS (cur.toList.take (q * 64) ++ bts (b.take f) ++ cur.toList.drop (q * 64 + f)).toArray)
      generalize World.setRow W3.drew gS (cur.toList.take (q * 64) ++ bts (b.take f) ++ cur.toList.drop (q * 64 + f)).toArray = W5 at DL ⊢
      go_wp2_with fail
      rw [E1.out]
      have hL := PD.torn_next (ps := pick) HQB.out
      rw [HF.out] at hL
      refine ⟨⟨j + 1, hj1, rfl, ?_, (((HM.out.trans (DM.nil M3.out)).trans (DM.nil (Mods.refl Nil W3).drew)).trans DL.out.2)⟩, hj2⟩
      rw [hL, HVS.out]
      exact DL.out.1
    · obtain rfl : j = n := by omega
      have DC := Lib.hid HD.out.fresh
      have k1 := HD.out.blk.four.1
      rw [HVW.out, HN.out] at k1
      obtain ⟨-, k1, k2, k3⟩ := k1
      have f1 := HD.out.blk.four.2.2.1
      have f2 := HD.out.blk.four.2.2.2.1
      have f3 := HD.out.blk.four.2.2.2.2
      have e : (d.torn pick j).L = crashL d.L d.W pick := by unfold PD.torn; dsimp only; rw [List.take_of_length_le (by rw [HN.out]; exact Nat.le_refl _), crashF_eq]
      have HE := Lib.hid e
      clear e
      go_wp2_with fail
      refine bodyPost_end (results_none rfl _ _ _) rfl ?_
      have h1 := DC.out.1
      rw [HE.out] at h1
      exact ⟨rfl, ⟨vS, _, _, h1⟩, HM.out.trans DC.out.2⟩
end Go.Proofs.Ytdllgmhipenidaa
end

section
/- Package disk: the calls of a disk that is up and doesn't stop. -/
namespace Go.Proofs.Ytdllgmhipenidaa
set_option maxRecDepth 100000
open Go.RowKit
set_option linter.unusedVariables false

/-- A disk that is up and doesn't stop. -/
def live (L : List (List UInt8)) (W : List (Nat × List UInt8)) : PD := ⟨L, W, -1, false⟩
theorem live_new (n : Nat) : PD.new n = live (List.replicate n zeros64) [] := rfl
theorem live_at {L : List (List UInt8)} {W : List (Nat × List UInt8)} {i : Int} (h0 : 0 ≤ i) (h1 : i < (L.length : Int)) : (live L W).at_ i = 0 := by
  unfold PD.at_ live
  dsimp only
  rw [if_neg (by simp), if_neg (by omega)]
theorem live_count (L : List (List UInt8)) (W : List (Nat × List UInt8)) : (live L W).count = (live L W, 0) := rfl
theorem live_write {L : List (List UInt8)} {W : List (Nat × List UInt8)} {i : Int} {b : List UInt8} (h0 : 0 ≤ i) (h1 : i < (L.length : Int)) (hb : b.length = 64) : (live L W).write i b = (live L (W ++ [(i.toNat, b)]), 0) := by
  unfold PD.write
  rw [live_at h0 h1, live_count, if_neg (by simp), if_neg (by omega)]
  rfl
theorem live_sync (L : List (List UInt8)) (W : List (Nat × List UInt8)) : (live L W).sync = (live (layAll L W) [], 0) := rfl
theorem live_read {L : List (List UInt8)} {W : List (Nat × List UInt8)} {i : Int} (h0 : 0 ≤ i) (h1 : i < (L.length : Int)) : (live L W).read i = ((lastW i.toNat W).getD (L.getD i.toNat []), 0) := by
  unfold PD.read
  rw [live_at h0 h1, if_neg (by simp)]
  rfl
theorem live_crash (L : List (List UInt8)) (W : List (Nat × List UInt8)) (ps : List UInt8) : (live L W).crash ps = live (crashL L W ps) [] := rfl
section
variable {w : World} {base db : Nat} {L : List (List UInt8)} {W : List (Nat × List UInt8)}
theorem lnew (w : World) {base n : Nat} {k : Int} (hb : base ≤ w.heap.size) (hk : k = (n : Int)) (h1 : 1 ≤ n) (h2 : n ≤ 65536) : Calls Try.prog 13 #[.int .i64 k] w fun e w' => ∃ db, e = .returned (.tuple #[.pointer (some ⟨db, 0, none⟩), .int .i64 0]) ∧ DiskAt w' base db (live (List.replicate n zeros64) []) ∧ Mods Nil w w' := by
  subst hk
  exact dnew_any w hb h1 h2
theorem lwrite (h : DiskAt w base db (live L W)) (hW : W.length ≤ 1000) {i : Int} (h0 : 0 ≤ i) (h1 : i < (L.length : Int)) {A : Option Addr} {c m : Nat} {b : List UInt8} (hs : Bs base w A c b) (hm : b.length = 64) (hm2 : m = 64) :
    Calls Try.prog 27 #[.pointer (some ⟨db, 0, none⟩), .int .i64 i, .slice A m c] w fun e w' => e = .returned (.int .i64 0) ∧ DiskAt w' base db (live L (W ++ [(i.toNat, b)])) ∧ DM base w w' := by
  have := dwrite_any h hW i hs (hm.trans hm2.symm)
  rw [live_write h0 h1 hm] at this
  exact this
theorem lsync (h : DiskAt w base db (live L W)) : Calls Try.prog 75 #[.pointer (some ⟨db, 0, none⟩)] w fun e w' => e = .returned (.int .i64 0) ∧ DiskAt w' base db (live (layAll L W) []) ∧ DM base w w' := dsync_any h
theorem lread (h : DiskAt w base db (live L W)) {i : Int} (h0 : 0 ≤ i) (h1 : i < (L.length : Int)) {b : List UInt8} (hb : (lastW i.toNat W).getD (L.getD i.toNat []) = b) :
    Calls Try.prog 87 #[.pointer (some ⟨db, 0, none⟩), .int .i64 i] w fun e w' => ∃ A c m, e = .returned (.tuple #[.slice A m c, .int .i64 0]) ∧ b.length = m ∧ m = 64 ∧ Sl w' A c (bts b) ∧ Mods Nil w w' := by
  have := dread_any h i
  have hl := (show (live L W).Ok from by obtain ⟨_, _, _, h⟩ := h; exact h.ok).read (live_at h0 h1)
  rw [live_read h0 h1, hb] at this hl
  exact this.mono (fun e w' ⟨A, c, m, h1, h2, h3, h4⟩ => ⟨A, c, m, h1, h2, h2.symm.trans hl, h3, h4⟩)
theorem lcrash (h : DiskAt w base db (live L W)) {A : Option Addr} {c m : Nat} {pick : List UInt8} (hs : Bs base w A c pick) (hm : pick.length = m) :
    Calls Try.prog 29 #[.pointer (some ⟨db, 0, none⟩), .slice A m c] w fun e w' => e = .returned (.tuple #[]) ∧ DiskAt w' base db (live (crashL L W pick) []) ∧ DM base w w' := dcrash_any h hs hm
theorem lwaits (h : DiskAt w base db (live L W)) {k : Int} (hk : (W.length : Int) = k) : Calls Try.prog 86 #[.pointer (some ⟨db, 0, none⟩)] w fun e w' => e = .returned (.int .i64 k) ∧ w = w' := by
  subst hk
  exact dwaits_any h
theorem ldown (h : DiskAt w base db (live L W)) : Calls Try.prog 85 #[.pointer (some ⟨db, 0, none⟩)] w fun e w' => e = .returned (.bool false) ∧ w = w' := ddown_any h
end
end Go.Proofs.Ytdllgmhipenidaa
end
