/- Package disk: Sync. -/
import Derived.Test.YtgebcpfgihcoiaaDisk4
namespace Go.Proofs.Ytgebcpfgihcoiaa
set_option maxRecDepth 100000
open Go.RowKit
set_option linter.unusedVariables false

theorem dsync_none (w : World) : Calls Try.prog 47 #[.pointer none] w fun e w' => e = .returned (.int .i64 1) ∧ w = w' := by
  go_enter Try.func47, Try.ntmps47
  go_wp2_with (go_at_call 70; refine (dup_none w).mono ?_; rintro e w1 ⟨rfl, rfl⟩)
  go_ret
  exact ⟨rfl, rfl⟩
/-- So many of the writes that wait are laid. -/
def PD.laid (d : PD) (j : Nat) : PD := { d with L := layAll d.L (d.W.take j) }
theorem PD.Ok.laid {d : PD} (h : d.Ok) (j : Nat) : (d.laid j).Ok :=
  ⟨layAll_ok h.sure (fun w hw => (h.waits w (List.mem_of_mem_take hw)).2), fun w hw => by
    have := h.waits w hw
    refine ⟨?_, this.2⟩
    show w.1 < (layAll d.L (d.W.take j)).length
    rw [layAll_length]
    exact this.1⟩
/-- One block is laid over. -/
theorem DiskIn.lay {w : World} {base db g cap : Nat} {vW : Value} {z : Int} {d : PD} (h : DiskIn w base db (.slice (some ⟨g, 0, none⟩) d.L.length cap) vW z d) {q : Nat} {b : List UInt8} (hq : q < d.L.length) (hb : b.length = 64) :
    DiskIn (w.setCells g (q * 64) (bts b)) base db (.slice (some ⟨g, 0, none⟩) d.L.length cap) vW z { d with L := d.L.set q b } ∧ DM base w (w.setCells g (q * 64) (bts b)) := by
  have hm := setCells_mods (g := g) (bts b) (q * 64) w
  have hs := own_put (f := bts) h.sure h.ok.sureL hq (bts_64 hb)
  have e1 : ∀ k, (Value.slice (some ⟨g, 0, none⟩) d.L.length cap).ownBlock = some k → k = g := fun k hk => by simp [Value.ownBlock] at hk; exact hk.symm
  refine ⟨⟨h.blk.mods hm (fun e => own_blk_ne h.sure h.blk (by decide) (by subst e; rfl)), by simpa [sureC] using hs, own_mods h.waits hm (fun k hk e => by subst e; exact own_own_ne h.waits h.sure (by decide) hk rfl), h.le, h.left, ⟨fun x hx => ?_, fun x hx => by simpa using h.ok.waits x hx⟩⟩, hm.mono (fun k _ e => by subst e; exact own_ds h.sure (.inr (.inl rfl)) _ rfl)⟩
  rcases List.mem_or_eq_of_mem_set hx with hx | rfl
  · exact h.ok.sure x hx
  · exact hb

/-- No write waits any more. -/
theorem DiskIn.clearW {w : World} {base db : Nat} {vS vW : Value} {z : Int} {d : PD} (h : DiskIn w base db vS vW z d) :
    DiskIn (w.setCell ⟨db, 1, none⟩ (.slice none 0 0)) base db vS (.slice none 0 0) z { d with W := [] } ∧ DM base w (w.setCell ⟨db, 1, none⟩ (.slice none 0 0)) := by
  have hm : Mods (fun k => k = db) w (w.setCell ⟨db, 1, none⟩ (.slice none 0 0)) := Mods.setCell (S := fun k => k = db) (p := ⟨db, 1, none⟩) (Mods.refl _ _) (fun _ => rfl) _
  exact ⟨⟨by simpa using h.blk.set_ 1 (.slice none 0 0), own_mods h.sure hm (fun k hk e => own_blk_ne h.sure h.blk (by decide) (by rw [hk, e])), World.ownsRow_nil _ _ _ _, h.le, h.left, ⟨h.ok.sure, fun x hx => by cases hx⟩⟩, hm.mono (fun k _ e => by rw [e]; exact h.ds)⟩
theorem rangeAt_of_blk {w : World} {g : Nat} {t : TypeId} {cs : List Value} (h : Blk w g t cs.toArray) : w.rangeAt g 0 cs := fun j u hu => by
  rw [h.cell]
  simpa using hu
theorem there_mods {S : Nat → Prop} {w w' : World} {g o n : Nat} (h : w.there g o n) (hm : Mods S w w') (hS : ¬ S g) : w'.there g o n := fun j hj => by
  obtain ⟨h1, h2⟩ := h j hj
  obtain ⟨u, hu⟩ := Option.isSome_iff_exists.1 h1
  have hb := hm.block g (World.block_lt_of_cell? w _ hu) hS
  refine ⟨by rw [World.cell?_of_block hb]; exact h1, ?_⟩
  simp only [World.frozen?] at h2 ⊢
  rw [hb]
  exact h2
set_option maxHeartbeats 3200000 in
theorem dsync_ok {w : World} {base db : Nat} {d : PD}
    (hC : Calls Try.prog 52 #[.pointer (some ⟨db, 0, none⟩)] w fun e w' => e = .returned (.int .i64 0) ∧ DiskAt w' base db d ∧ DM base w w')
    (hR : Calls Try.prog 70 #[.pointer (some ⟨db, 0, none⟩)] w fun e w' => e = .returned (.int .i64 0) ∧ w = w') :
    Calls Try.prog 47 #[.pointer (some ⟨db, 0, none⟩)] w fun e w' => e = .returned (.int .i64 0) ∧ DiskAt w' base db { d with L := layAll d.L d.W, W := [] } ∧ DM base w w' := by
  have HC := Lib.hid hC
  have HR := Lib.hid hR
  have hZ := zero_w
  clear hC hR
  go_enter Try.func47, Try.ntmps47
  go_wp2_with (first
    | (go_at_call 70; refine HR.out.mono ?_; rintro e w1 ⟨rfl, rfl⟩)
    | (go_at_call 52; refine HC.out.mono ?_; rintro e w2 ⟨rfl, ⟨vS, vW, z, d2⟩, m2⟩; obtain ⟨A1, cp, hvW, hcp, hcm⟩ := own_form d2.waits; obtain ⟨n, hn⟩ : ∃ n, d.W.length = n := ⟨_, rfl⟩; have c1 := d2.blk.four.1.2.1; rw [hvW, hn] at c1; have hdb := d2.blk.lt; have D2 := Lib.hid d2; have M2 := Lib.hid m2; have HN := Lib.hid hn; have HVW := Lib.hid hvW; have HN63 := Lib.hid (show (n : Int) ≤ 9223372036854775807 by unfold maxLen at hcm; omega); clear d2 m2 hn hvW hcp hcm))
  go_loopw [22] (fun x wr => ∃ (j : Nat), j ≤ n ∧ x = .int .i64 (j : Int) ∧ DiskIn wr base db vS vW z (d.laid j) ∧ DM base w2 wr) (fun x _ => n - (intOf x).toNat)
  case atStart => exact ⟨0, Nat.zero_le _, rfl, D2.out, DM.refl _ _⟩
  case round =>
    obtain ⟨j, hj, rfl, hd, hmo⟩ := hrel
    have HD := Lib.hid hd
    have HM := Lib.hid hmo
    clear hd hmo
    by_cases hlt : j < n
    · have hltI : (j : Int) < (n : Int) := by omega
      have hpW : j < d.W.length := by rw [HN.out]; omega
      obtain ⟨gW, capW, hvW, rW, -, -⟩ := HD.out.rowW (k := j) hpW
      obtain ⟨⟨q, b⟩, hqb⟩ : ∃ x, d.W[j] = x := ⟨_, rfl⟩
      have hqb2 : (d.laid j).W[j]'hpW = (q, b) := hqb
      rw [hqb2] at rW
      have hok := HD.out.ok.waits _ (List.getElem_mem (l := (d.laid j).W) hpW)
      rw [hqb2] at hok
      obtain ⟨hq, hbl⟩ := hok
      dsimp only at hq hbl
      obtain ⟨gS, capS, hvS, -, tS, hgd, hgS⟩ := HD.out.rowS hq
      have hvW2 : Value.slice A1 n cp = Value.slice (some ⟨gW, 0, none⟩) n capW := by rw [← HN.out]; exact HVW.out.symm.trans hvW
      injection hvW2 with hA1 hA2 hA3
      subst hA1; subst hA3
      have RW := Lib.hid rW
      have TS := Lib.hid tS
      have HVS := Lib.hid hvS
      have HQ := Lib.hid hq
      have HQB := Lib.hid (show d.W[j]? = some (q, b) by rw [List.getElem?_eq_getElem hpW, hqb])
      have HWI : (Try.prog.info? 105).map (·.size) = some (wC (q, b)).length := by simpa [wC, hbl] using infoWrite2
      have HWJ : (Try.prog.info? 105).map (·.size) = some (wC (q, b)).toArray.size := by simpa using HWI
      have HBI : (Try.prog.info? 103).map (·.size) = some (bts b).length := by rw [bts_length, hbl]; exact infoBlock2
      have HBJ : (Try.prog.info? 103).map (·.size) = some (bts b).toArray.size := by simpa using HBI
      clear rW tS hvS hqb hqb2 hvW hA2
      clear hq
      clear hpW
      go_wp2_with (first
        | (refine wpList_load_mid rfl 105 (.tmp 24) rfl gW (j * 65) rfl (wC (q, b)) _ RW.out Try.underlying105 rfl HWI ?_)
        | (refine wpList_store_mk rfl 105 (.tmp 6) (.tmp 25) rfl rfl wr.heap.size rfl 105 (wZ 0) (wC (q, b)).toArray rfl (Blk.new wr 105 (wZ 0)) (by simp [wZ, wC, hbl]) (all_oneCell_toArray (wC_one _)) HWJ (by simp [Value.cells]) ?_; intro W3 b3 m3; have B3 := Lib.hid b3; have M3 := Lib.hid (((Mods.refl Nil wr).alloc _).trans2 m3 (fun i hi e => by subst e; exact Nat.lt_irrefl _ hi)); clear b3 m3))
      obtain ⟨m, hm⟩ : ∃ m, (d.laid j).L.length = m := ⟨_, rfl⟩
      have D3 := (HD.out.nil M3.out).nil (Mods.refl Nil W3).drew
      have c0 := D3.blk.four.1.1
      rw [HVS.out, hm] at c0
      have hqm : q < m := by rw [← hm]; exact HQ.out
      have hqmI : (q : Int) < (m : Int) := by omega
      have RB := rangeAt_of_blk B3.out.drew
      obtain ⟨e0, RB2⟩ := wC_parts RB
      dsimp only at e0 RB2
      rw [Nat.zero_add] at RB2
      have RR := Lib.hid RB2
      have TT := Lib.hid (there_mods (there_mods TS.out M3.out (fun h => h)) (Mods.refl Nil W3).drew (fun h => h))
      have DL := Lib.hid ((HVS.out ▸ D3).lay HQ.out hbl)
      have HMM := Lib.hid hm
      clear D3 RB RB2 hm
      refine wp_region_still_tail 9 (by kernel_rfl) (by kernel_rfl) ?_
      show wpStill _ _ W3.drew _ _ _
      simp only [List.take_succ_cons, List.take_zero, List.drop_succ_cons, List.drop_zero]
      iterate 7 still_step
      refine wpStill_load_mid rfl 103 (.tmp 32) rfl wr.heap.size 1 rfl (bts b) _ RR.out Try.underlying103 rfl HBI ?_
      still_step
      refine wpStill_nil ?_
      refine wpList_store_mid rfl 103 (.tmp 34) (.tmp 33) rfl gS (q * 64) (bts b).toArray rfl rfl (by simpa [hbl] using TT.out) HBJ (all_oneCell_toArray (bts_one _)) ?_
      go_wp2_with fail
      have hn63 := HN63.out
      have hL : (d.laid (j + 1)) = { d.laid j with L := (d.laid j).L.set q b } := by
        unfold PD.laid
        dsimp only
        have := List.getElem?_eq_some_iff.1 HQB.out
        rw [List.take_succ_eq_append_getElem this.1, this.2, layAll_snoc]
      have e1 : wrap64 ((j : Int) + 1) = ((j + 1 : Nat) : Int) := by unfold wrap64; omega
      rw [e1]
      refine ⟨⟨j + 1, by omega, rfl, ?_, (((HM.out.trans (DM.nil M3.out)).trans (DM.nil (Mods.refl Nil W3).drew)).trans DL.out.2)⟩, by simp [intOf]; omega⟩
      rw [hL, HVS.out]
      exact DL.out.1
    · obtain rfl : j = n := by omega
      have DC := Lib.hid HD.out.clearW
      have k1 := HD.out.blk.four.1.2.1
      rw [HVW.out, HN.out] at k1
      have f1 := HD.out.blk.four.2.2.1
      have e : (d.laid j).L = layAll d.L d.W := by unfold PD.laid; dsimp only; rw [List.take_of_length_le (by rw [HN.out]; exact Nat.le_refl _)]
      have HE := Lib.hid e
      clear e
      go_wp2_with fail
      go_ret
      have h1 := DC.out.1
      rw [HE.out] at h1
      exact ⟨rfl, ⟨vS, _, z, h1⟩, (M2.out.trans HM.out).trans DC.out.2⟩
theorem dsync_any {w : World} {base db : Nat} {d : PD} (h : DiskAt w base db d) : Calls Try.prog 47 #[.pointer (some ⟨db, 0, none⟩)] w fun e w' => e = .returned (.int .i64 d.sync.2) ∧ DiskAt w' base db d.sync.1 ∧ DM base w w' := by
  have HU := Lib.hid (dup_any h)
  have HC := Lib.hid (dcount_any h)
  unfold PD.sync
  unfold PD.up at HU
  cases hd : d.down with
  | true =>
    rw [hd] at HU
    simp only [if_true]
    have H := Lib.hid h
    clear h hd HC
    go_enter Try.func47, Try.ntmps47
    go_wp2_with (go_at_call 70; refine HU.out.mono ?_; rintro e w1 ⟨rfl, rfl⟩)
    go_ret
    exact ⟨rfl, H.out, DM.refl _ _⟩
  | false =>
    rw [hd] at HU
    simp only [Bool.false_eq_true, if_false]
    by_cases hc : d.count.2 = 0
    · rw [if_neg (by simp [hc])]
      rw [hc] at HC
      have := dsync_ok HC.out HU.out
      rw [d.count_L.1, d.count_L.2] at this
      exact this
    · rw [if_pos hc]
      have hc' : (d.count.2 != 0) = true := by simpa using hc
      generalize d.count.2 = x at *
      clear h hd hc
      go_enter Try.func47, Try.ntmps47
      go_wp2_with (first
        | (go_at_call 70; refine HU.out.mono ?_; rintro e w1 ⟨rfl, rfl⟩)
        | (go_at_call 52; refine HC.out.mono ?_; rintro e w2 ⟨rfl, d2, m2⟩; have D2 := Lib.hid d2; have M2 := Lib.hid m2; clear d2 m2))
      go_ret
      exact ⟨rfl, D2.out, M2.out⟩
end Go.Proofs.Ytgebcpfgihcoiaa
