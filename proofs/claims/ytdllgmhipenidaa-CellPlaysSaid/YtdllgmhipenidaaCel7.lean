/- Package cell in memory: a cell on a disk; which blocks its calls may write; put, Get, Turn. -/
import Derived.Test.YtdllgmhipenidaaCel6
import Derived.Test.YtdllgmhipenidaaDiskC
import Derived.Test.YtdllgmhipenidaaClone
import Derived.Test.YtdllgmhipenidaaQT
namespace Go.Proofs.Ytdllgmhipenidaa
set_option maxRecDepth 100000
open Go.RowKit
set_option linter.unusedVariables false

/-- The blocks that a call on a cell may write. -/
def CS (base : Nat) (w : World) : Nat → Prop := fun k => base ≤ k ∧ ∃ t cs, Blk w k t cs ∧ (t = 109 ∨ t = 133 ∨ t = 135 ∨ t = 146)
def CM (base : Nat) (w w' : World) : Prop := Mods (CS base w) w w'
def cellC (db : Nat) (c : PCell) : List Value := [.pointer (some ⟨db, 0, none⟩), .int .i64 (c.at_ : Int), .int .i64 (c.spare : Int)] ++ bts c.told ++ bts (eight c.great) ++ [.int .i64 c.err]
structure CellIn (w : World) (base cb db : Nat) (c : PCell) : Prop where
  blk : Blk w cb 146 (cellC db c).toArray
  le : base ≤ cb
  ok : c.Ok
section
variable {w w' w0 w1 w2 : World} {base cb db : Nat} {c : PCell} {d : PD}
theorem cblk_typ {g : Nat} {t t2 : TypeId} {cs cs2 : Array Value} (h : Blk w g t cs) (h2 : Blk w g t2 cs2) : t = t2 := by
  have e := Eq.trans (Eq.symm h) h2
  injection e with e
  injection e
theorem CM.refl (base : Nat) (w : World) : CM base w w := Mods.refl _ _
theorem CM.trans (h : CM base w w1) (k : CM base w1 w2) : CM base w w2 := by
  refine Mods.trans2 h k (fun i hi hs => ?_)
  refine Classical.byContradiction fun hn => ?_
  have hb := h.block i hi hn
  obtain ⟨h1, t, cs, h2, h3⟩ := hs
  exact hn ⟨h1, t, cs, hb.symm.trans h2, h3⟩
theorem CM.nil (h : Mods Nil w w') : CM base w w' := h.mono (fun _ _ h => h.elim)
theorem CM.dm (h : DM base w w') : CM base w w' := h.mono (fun k _ hs => by
  obtain ⟨h1, t, cs, h2, h3⟩ := hs
  exact ⟨h1, t, cs, h2, by rcases h3 with h | h | h <;> simp [h]⟩)
theorem CM.nilTrans (h : Mods Nil w0 w) (hb : w0.heap.size ≤ base) (k : CM base w w') : Mods Nil w0 w' := h.nil_trans k (fun i hi => Nat.le_trans hb hi.1)
theorem CM.size (h : CM base w w') : w.heap.size ≤ w'.heap.size := Mods.size h
theorem Blk.cm {g : Nat} {t : TypeId} {cs : Array Value} (h : Blk w g t cs) (hm : CM base w w') (ht : t ≠ 109 ∧ t ≠ 133 ∧ t ≠ 135 ∧ t ≠ 146) : Blk w' g t cs := h.mods hm (fun hs => by
  obtain ⟨_, t2, cs2, h2, h3⟩ := hs
  obtain rfl := cblk_typ h h2
  rcases h3 with h3 | h3 | h3 | h3
  · exact ht.1 h3
  · exact ht.2.1 h3
  · exact ht.2.2.1 h3
  · exact ht.2.2.2 h3)
/-- The disk is as it was where none of its blocks was written. -/
theorem DiskAt.offC {S : Nat → Prop} (h : DiskAt w base db d) (hm : Mods S w w') (hS : ∀ k, S k → ¬ DS base w k) : DiskAt w' base db d := by
  obtain ⟨vS, vW, z, h⟩ := h
  exact ⟨vS, vW, z, h.blk.mods hm (fun hs => hS _ hs h.ds), own_mods h.sure hm (fun k hk hs => hS k hs (own_ds h.sure (.inr (.inl rfl)) k hk)), own_mods h.waits hm (fun k hk hs => hS k hs (own_ds h.waits (.inr (.inr rfl)) k hk)), h.le, h.left, h.ok⟩
theorem CellIn.off {S : Nat → Prop} (h : CellIn w base cb db c) (hm : Mods S w w') (hs : ¬ S cb) : CellIn w' base cb db c := ⟨h.blk.mods hm hs, h.le, h.ok⟩
theorem CellIn.nil (h : CellIn w base cb db c) (hm : Mods Nil w w') : CellIn w' base cb db c := h.off hm (fun h => h)
theorem CellIn.noDS (h : CellIn w base cb db c) : ¬ DS base w cb := fun hs => by
  obtain ⟨_, t, cs, h2, h3⟩ := hs
  obtain rfl := cblk_typ h.blk h2
  rcases h3 with h3 | h3 | h3 <;> exact absurd h3 (by decide)
theorem CellIn.dm (h : CellIn w base cb db c) (hm : DM base w w') : CellIn w' base cb db c := h.off hm h.noDS
theorem CellIn.cs (h : CellIn w base cb db c) : CS base w cb := ⟨h.le, _, _, h.blk, .inr (.inr (.inr rfl))⟩
theorem DiskAt.cellSet (hd : DiskAt w base db d) (h : CellIn w base cb db c) (hm : Mods (fun k => k = cb) w w') : DiskAt w' base db d := hd.offC hm (fun k e => by rw [e]; exact h.noDS)
theorem CellIn.cm (h : CellIn w base cb db c) (hm : Mods (fun k => k = cb) w w') : CM base w w' := hm.mono (fun k _ e => by rw [e]; exact h.cs)
/-- Where the cell's parts lie. -/
theorem cellC_split (db : Nat) (c : PCell) : cellC db c = [.pointer (some ⟨db, 0, none⟩), .int .i64 (c.at_ : Int), .int .i64 (c.spare : Int)] ++ (bts c.told ++ (bts (eight c.great) ++ [.int .i64 c.err])) := by simp [cellC]
theorem cellC_length (h : c.told.length = 64) : (cellC db c).length = 76 := by simp [cellC, h, eight_length]
theorem cellC_tail (h : c.told.length = 64) (j : Nat) : (cellC db c)[67 + j]? = (bts (eight c.great) ++ [.int .i64 c.err])[j]? := by
  have e : cellC db c = ([.pointer (some ⟨db, 0, none⟩), .int .i64 (c.at_ : Int), .int .i64 (c.spare : Int)] ++ bts c.told) ++ (bts (eight c.great) ++ [.int .i64 c.err]) := by simp [cellC]
  rw [e, List.getElem?_append_right (by simp [h])]
  congr 1
  simp [h]
theorem cellC_told (h : c.told.length = 64) (j : Nat) (hj : j < 64) : (cellC db c)[3 + j]? = (bts c.told)[j]? := by
  have e : cellC db c = [.pointer (some ⟨db, 0, none⟩), .int .i64 (c.at_ : Int), .int .i64 (c.spare : Int)] ++ (bts c.told ++ (bts (eight c.great) ++ [.int .i64 c.err])) := by simp [cellC]
  rw [e, List.getElem?_append_right (by simp), List.getElem?_append_left (by simp [h]; omega)]
  congr 1
  simp
theorem CellIn.cell_ (h : CellIn w base cb db c) (i : Nat) : w.cell? ⟨cb, i, none⟩ = (cellC db c)[i]? := by
  rw [h.blk.cell i]
  simp
theorem CellIn.told (h : CellIn w base cb db c) : w.rangeAt cb 3 (bts c.told) := fun j u hu => by
  have hj : j < 64 := by have := (List.getElem?_eq_some_iff.1 hu).1; rw [bts_length, h.ok.len] at this; exact this
  rw [h.cell_, cellC_told h.ok.len j hj]
  exact hu
theorem CellIn.great (h : CellIn w base cb db c) : w.rangeAt cb 67 (bts (eight c.great)) := fun j u hu => by
  have hj : j < 8 := by have := (List.getElem?_eq_some_iff.1 hu).1; rw [bts_length, eight_length] at this; exact this
  rw [h.cell_, cellC_tail h.ok.len j, List.getElem?_append_left (by rw [bts_length, eight_length]; omega)]
  exact hu
theorem CellIn.cells (h : CellIn w base cb db c) : w.cell? ⟨cb, 0, none⟩ = some (.pointer (some ⟨db, 0, none⟩)) ∧ w.cell? ⟨cb, 1, none⟩ = some (.int .i64 (c.at_ : Int)) ∧ w.cell? ⟨cb, 2, none⟩ = some (.int .i64 (c.spare : Int)) ∧ w.cell? ⟨cb, 75, none⟩ = some (.int .i64 c.err) :=
  ⟨by rw [h.cell_]; rfl, by rw [h.cell_]; rfl, by rw [h.cell_]; rfl, by
    rw [h.cell_, show 75 = 67 + 8 from rfl, cellC_tail h.ok.len 8, List.getElem?_append_right (by rw [bts_length, eight_length]; omega), bts_length, eight_length]
    rfl⟩
/-- Disk and cell. -/
def CellAt (w : World) (base cb db : Nat) (d : PD) (c : PCell) : Prop := DiskAt w base db d ∧ CellIn w base cb db c
theorem CellAt.nil (h : CellAt w base cb db d c) (hm : Mods Nil w w') : CellAt w' base cb db d c := ⟨h.1.nil hm, h.2.nil hm⟩
theorem CellAt.dm (h : CellAt w base cb db d c) (hm : DM base w w') {d2 : PD} (hd : DiskAt w' base db d2) : CellAt w' base cb db d2 c := ⟨hd, h.2.dm hm⟩

theorem cget_nil (w : World) : Calls Try.prog 40 #[.pointer none] w fun e w' => e = .returned (.slice none 0 0) ∧ w = w' := by
  go_enter Try.func40, Try.ntmps40
  go_wp2
  go_ret
  exact ⟨rfl, rfl⟩
theorem cturn_nil (w : World) : Calls Try.prog 41 #[.pointer none] w fun e w' => e = .returned (.int .u64 0) ∧ w = w' := by
  go_enter Try.func41, Try.ntmps41
  go_wp2
  go_ret
  exact ⟨rfl, rfl⟩
theorem cset_nil (w : World) (A : Option Addr) (n cc : Nat) : Calls Try.prog 36 #[.pointer none, .slice A n cc] w fun e w' => e = .returned (.int .i64 1) ∧ w = w' := by
  go_enter Try.func36, Try.ntmps36
  go_wp2
  go_ret
  exact ⟨rfl, rfl⟩
theorem cget_any (h : CellIn w base cb db c) {n : Nat} (hn : c.data.length = n) : Calls Try.prog 40 #[.pointer (some ⟨cb, 0, none⟩)] w fun e w' => ∃ A cc, e = .returned (.slice A n cc) ∧ Sl w' A cc (bts c.data) ∧ Mods Nil w w' := by
  have hq : (c.told.getD 8 0).toNat = n := by rw [← h.ok.data]; exact hn
  have h43 : n ≤ 43 := by rw [← hq]; exact h.ok.size
  have HT := Lib.hid h.told
  have hinfo := Lib.hid (infoCBl h.ok.len)
  have HD := Lib.hid (fun W => cdata_any W h.ok.len hq h43)
  have HN : Hid (c.data.length = n) := Lib.hid hn
  obtain ⟨b, hb⟩ : ∃ b, c.told = b := ⟨_, rfl⟩
  have HE : Hid (dataC b = c.data) := Lib.hid (by rw [← hb]; rfl)
  rw [hb] at HT hinfo HD
  clear h hn hq hb
  go_enter Try.func40, Try.ntmps40
  go_wp2_with (first
    | (refine gw_load_mid (by rfl) 142 _ rfl cb 3 rfl (bts b) _ HT.out Try.underlying142 rfl hinfo.out ?_)
    | (go_at_call 100; refine (HD.out _).mono ?_; rintro e w2 ⟨c2, rfl, l2, s2, m2⟩; rw [HE.out] at s2 l2; have S2 := Lib.hid s2; have M2 := Lib.hid m2; clear s2 l2 m2)
    | (go_at_call 72; refine (clone_any HN.out (by omega) S2.out).mono ?_; rintro e w3 ⟨A3, c3, rfl, s3, m3, f3⟩; have S3 := Lib.hid s3; have M3 := Lib.hid (M2.out.trans m3); clear s3 m3 f3))
  go_ret
  exact ⟨A3, c3, rfl, S3.out, M3.out⟩
theorem cturnof_any (h : CellIn w base cb db c) {x : Nat} (hx : c.turn = x) : Calls Try.prog 41 #[.pointer (some ⟨cb, 0, none⟩)] w fun e w' => e = .returned (.int .u64 (x : Int)) ∧ Mods Nil w w' := by
  have HT := Lib.hid h.told
  have hinfo := Lib.hid (infoCBl h.ok.len)
  have HU := Lib.hid (fun W => cturn_any W h.ok.len (k := 0) (by omega))
  have hlt := turnN_lt h.ok.len (k := 0) (by omega)
  have e : turnN c.told 0 = x := hx
  rw [e] at HU hlt
  have HN := Lib.hid (fun W => cnumber_any W hlt)
  obtain ⟨b, hb⟩ : ∃ b, c.told = b := ⟨_, rfl⟩
  rw [hb] at HT hinfo HU
  clear h hx hlt e hb
  go_enter Try.func41, Try.ntmps41
  go_wp2_with (first
    | (refine gw_load_mid (by rfl) 142 _ rfl cb 3 rfl (bts b) _ HT.out Try.underlying142 rfl hinfo.out ?_)
    | (go_at_call 91; refine (HU.out _).mono ?_; rintro e w2 ⟨rfl, m2⟩; have M2 := Lib.hid m2; clear m2)
    | (go_at_call 101; refine (HN.out _).mono ?_; rintro e w3 ⟨rfl, m3⟩; have M3 := Lib.hid (M2.out.trans m3); clear m3))
  go_ret
  exact ⟨rfl, M3.out⟩
/-- Bytes in a new block of another type. -/
theorem bs_box {W : World} {g : Nat} {b : List UInt8} (hB : Blk W g 142 (bts b).toArray) (h : b.length = 64) : Bs base W (some ⟨g, 0, none⟩) 64 b :=
  ⟨range_sl (blkL_range hB) (by omega) (by unfold maxLen; omega), fun _ a ha => by
    injection ha with ha
    subst ha
    exact .inr ⟨_, _, hB, by decide, by decide, by decide⟩⟩
set_option maxHeartbeats 1600000 in
theorem cput_any (h : CellAt w base cb db d c) (hW : d.W.length ≤ 900) {b : List UInt8} (hb : b.length = 64) : Calls Try.prog 98 #[.pointer (some ⟨cb, 0, none⟩), .agg (bts b).toArray] w fun e w' => e = .returned (.int .i64 (c.put d b).2) ∧ DiskAt w' base db (c.put d b).1 ∧ DM base w w' := by
  obtain ⟨hD, hC⟩ := h
  obtain ⟨W, hW0⟩ : ∃ W, w.alloc (.cells (bts b).toArray 142) = W := ⟨_, rfl⟩
  have HM : Hid (Mods Nil w W) := by rw [← hW0]; exact (Mods.refl Nil w).alloc _
  have B0 : Hid (Blk W w.heap.size 142 (bts b).toArray) := by rw [← hW0]; exact Lib.hid (Blk.new w 142 (bts b).toArray)
  have C1 := hC.nil HM.out
  have c0 : ∀ V, Mods Nil W V → V.cell? ⟨cb, 0, none⟩ = some (.pointer (some ⟨db, 0, none⟩)) := fun V hm => (C1.nil hm).cells.1
  have c1 : ∀ V, Mods Nil W V → V.cell? ⟨cb, 1, none⟩ = some (.int .i64 (c.at_ : Int)) := fun V hm => (C1.nil hm).cells.2.1
  have c2 : ∀ V, Mods Nil W V → V.cell? ⟨cb, 2, none⟩ = some (.int .i64 (c.spare : Int)) := fun V hm => (C1.nil hm).cells.2.2.1
  obtain ⟨i, hi⟩ : ∃ i, c.at_ + c.spare = i := ⟨_, rfl⟩
  have hat := hC.ok.at_
  have hsp := hC.ok.spare
  have hiI : (c.at_ : Int) + (c.spare : Int) = (i : Int) := by omega
  have hwi : IntKind.i64.wrap (i : Int) = (i : Int) := by rw [IntKind.wrap_i64]; omega
  have HD1 := Lib.hid (hD.nil HM.out)
  have HWR : Hid (∀ V, Mods Nil W V → Calls Try.prog 27 #[.pointer (some ⟨db, 0, none⟩), .int .i64 (i : Int), .slice (some ⟨w.heap.size, 0, none⟩) 64 64] V fun e w' => e = .returned (.int .i64 (d.write (i : Int) b).2) ∧ DiskAt w' base db (d.write (i : Int) b).1 ∧ DM base w w' ∧ DM base V w') := Lib.hid (fun V hV => ((dwrite_any (HD1.out.nil hV) (by omega) (i : Int) (bs_box (base := base) (B0.out.mods hV (fun h => h)) hb) hb).mono fun e w' ⟨h1, h2, h3⟩ => ⟨h1, h2, (DM.nil (HM.out.trans hV)).trans h3, h3⟩))
  obtain ⟨X, hX⟩ : ∃ X, d.write (i : Int) b = X := ⟨_, rfl⟩
  have hp : c.put d b = if X.2 ≠ 0 then X else X.1.sync := by unfold PCell.put; rw [hi, hX]
  have HC1 := Lib.hid C1
  rw [hX] at HWR
  rw [hp]
  clear hD hC C1 hW hi hX hp hat hsp hb
  by_cases hz : X.2 = 0
  · rw [if_neg (by simpa using hz)]
    rw [hz] at HWR
    generalize X.1 = D1 at *
    clear hz
    go_enter Try.func98, Try.ntmps98
    go_wp2_with fail
    refine qt_region 16 (by kernel_rfl) rfl ?_
    refine qt_quiet (fun V => Mods Nil W V) 0 14 2 (by kernel_rfl) ((Mods.refl Nil W).drew) ?_
    simp only [List.drop_zero, List.take_succ_cons, List.take_zero]
    repeat (first
      | go_big_quiet_skip
      | (go_big_quiet_want; first
          | (refine gq_op (v := ?_) ?_ ?_; rotate_left; (focus (intro V hV; go_simp; try with_reducible rfl)); go_big_quiet_on))
        simp only [Act.put, List.setIfInBounds_toArray, List.set_cons_zero, List.set_cons_succ])
    refine wpQuiet_nil ?_
    intro V hV
    refine qt_call 14 1 (by kernel_rfl) _ rfl rfl _ _ ?_ ((HWR.out V hV).mono ?_)
    · go_simp
    rintro e w2 ⟨rfl, d2, m2⟩
    refine ⟨_, rfl, ?_⟩
    refine qt_list 15 1 rfl (by kernel_rfl) ?_
    have C2 := Lib.hid (((HC1.out.nil hV).dm m2.2).cells.1)
    have D2 := Lib.hid d2
    have M2 := Lib.hid m2.1
    have c0w := C2.out
    clear d2 m2 c0 c1 c2 hV
    simp only [List.drop_succ_cons, List.drop_zero, Act.put, List.setIfInBounds_toArray]
    go_wp2_with (first
      | (go_at_call 75; refine (dsync_any D2.out).mono ?_; rintro e w3 ⟨rfl, d3, m3⟩; have D3 := Lib.hid d3; have M3 := Lib.hid (M2.out.trans m3); clear d3 m3))
    go_ret
    exact ⟨rfl, D3.out, M3.out⟩
  · rw [if_pos hz]
    have hzB : (X.2 != 0) = true := by simpa using hz
    generalize X.1 = D1 at *
    generalize X.2 = e1 at *
    clear hz
    go_enter Try.func98, Try.ntmps98
    go_wp2_with fail
    refine qt_region 16 (by kernel_rfl) rfl ?_
    refine qt_quiet (fun V => Mods Nil W V) 0 14 2 (by kernel_rfl) ((Mods.refl Nil W).drew) ?_
    simp only [List.drop_zero, List.take_succ_cons, List.take_zero]
    repeat (first
      | go_big_quiet_skip
      | (go_big_quiet_want; first
          | (refine gq_op (v := ?_) ?_ ?_; rotate_left; (focus (intro V hV; go_simp; try with_reducible rfl)); go_big_quiet_on))
        simp only [Act.put, List.setIfInBounds_toArray, List.set_cons_zero, List.set_cons_succ])
    refine wpQuiet_nil ?_
    intro V hV
    refine qt_call 14 1 (by kernel_rfl) _ rfl rfl _ _ ?_ ((HWR.out V hV).mono ?_)
    · go_simp
    rintro e w2 ⟨rfl, d2, m2⟩
    refine ⟨_, rfl, ?_⟩
    refine qt_list 15 1 rfl (by kernel_rfl) ?_
    have C2 := Lib.hid (((HC1.out.nil hV).dm m2.2).cells.1)
    have D2 := Lib.hid d2
    have M2 := Lib.hid m2.1
    have c0w := C2.out
    clear d2 m2 c0 c1 c2 hV
    simp only [List.drop_succ_cons, List.drop_zero, Act.put, List.setIfInBounds_toArray]
    go_wp2_with fail
    go_ret
    exact ⟨rfl, D2.out, M2.out⟩
end
end Go.Proofs.Ytdllgmhipenidaa
