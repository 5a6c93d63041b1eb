/- Package cell: Open. -/
import Derived.Test.YtdllgmhipenidaaCel10
namespace Go.Proofs.Ytdllgmhipenidaa
set_option maxRecDepth 100000
open Go.RowKit
set_option linter.unusedVariables false

/-- A cell as it is opened, so many of its blocks taken. -/
def openK (d : PD) (at_ : Nat) : Nat → PCell
  | 0 => cellNew at_
  | k + 1 => (openK d at_ k).take k (d.read ((at_ : Int) + (k : Int))).1
theorem openK_two (d : PD) (at_ : Nat) : openK d at_ 2 = cellOpen d at_ := by
  show ((cellNew at_).take 0 (d.read ((at_ : Int) + ((0 : Nat) : Int))).1).take 1 (d.read ((at_ : Int) + ((1 : Nat) : Int))).1 = _
  rw [show ((0 : Nat) : Int) = 0 from rfl, Int.add_zero]
  rfl
theorem take_at (c : PCell) (half : Nat) (b : List UInt8) : (c.take half b).at_ = c.at_ := by unfold PCell.take; split <;> rfl
theorem openK_at (d : PD) (at_ : Nat) : ∀ k, (openK d at_ k).at_ = at_
  | 0 => rfl
  | k + 1 => by rw [openK, take_at, openK_at d at_ k]
/-- A new block of a value of many cells. -/
theorem gw_box {P : Program} {ops : Array Oper} {rest : List Oper} {o : Oper} {a : Act} {w : World} {Q : Exit → Act → World → Prop} {T : TypeId} (x : Operand) (hg : o.guard = none) (ho : o.op = .box T x) (cs : Array Value) (hx : a.eval x = .agg cs)
    (h : ∀ W, Blk W w.heap.size T cs → Mods Nil w W → W.heap.size = w.heap.size + 1 → wpList P ops Q rest (a.put o.dst (.pointer (some ⟨w.heap.size, 0, none⟩))) W) : wpList P ops Q (o :: rest) a w := by
  refine wpList_plain hg fun K hK => ?_
  have := hK _ _ (h _ (Blk.new w T cs) ((Mods.refl Nil w).alloc _) (by simp))
  have hr : (Instr.box T (.agg cs)).run P w = .ok (.pointer (some ⟨w.heap.size, 0, none⟩)) (w.alloc (.cells cs T)) := by rfl
  unfold Oper.wp execOp
  simp only [ho, hx, hr, Sem.run_bind, Sem.run_pure, Result.andThen_ok]
  exact this
theorem build_cell (db at_ : Nat) : Try.prog.built 146 [(0, .pointer (some ⟨db, 0, none⟩)), (1, .int .i64 (at_ : Int))] = some (cellC db (cellNew at_)).toArray := by kernel_rfl
section
variable {w : World} {base db : Nat} {d : PD}
theorem copen_nil (w : World) (i : Int) : Calls Try.prog 34 #[.pointer none, .int .i64 i] w fun e w' => e = .returned (.tuple #[.pointer none, .int .i64 1]) ∧ Mods Nil w w' := by
  obtain ⟨W0, hW0⟩ : ∃ W, w.alloc (.cells #[.pointer none] 24) = W := ⟨_, rfl⟩
  obtain ⟨W, hW⟩ : ∃ W, W0.alloc (.cells #[.int .i64 i] 3) = W := ⟨_, rfl⟩
  have HM : Hid (Mods Nil w W) := by rw [← hW, ← hW0]; exact ((Mods.refl Nil w).alloc _).alloc _
  have B2 : Hid (Blk W w.heap.size 24 #[.pointer none]) := by subst hW; subst hW0; exact Lib.hid ((Blk.new w 24 #[.pointer none]).alloc _)
  have K2 : ∀ V, Mods Nil W V → V.cell? ⟨w.heap.size, 0, none⟩ = some (.pointer none) := fun V hm => by simpa using (B2.out.mods hm (fun h => h)).cell 0
  go_enter Try.func34, Try.ntmps34
  go_wp2_with fail
  refine gq_region (by kernel_rfl) (by kernel_rfl) ?_
  repeat (first
    | go_big_quiet_skip
    | (go_big_quiet_want; first
        | (refine gq_op (v := ?_) ?_ ?_; rotate_left; (focus (intro V hV; go_simp; try with_reducible rfl)); go_big_quiet_on))
      simp only [Act.put, List.setIfInBounds_toArray, List.set_cons_zero, List.set_cons_succ])
  refine wpQuiet_nil ?_
  intro V hV
  clear K2
  go_wp2_with fail
  go_ret2
  exact ⟨rfl, HM.out.trans hV⟩
set_option maxHeartbeats 1600000 in
theorem copen_bad (h : DiskAt w base db d) (hl : d.L.length ≤ 65536) (i : Int) (hi : i < 0 ∨ (d.L.length : Int) - 1 ≤ i) : Calls Try.prog 34 #[.pointer (some ⟨db, 0, none⟩), .int .i64 i] w fun e w' => e = .returned (.tuple #[.pointer none, .int .i64 1]) ∧ Mods Nil w w' := by
  obtain ⟨W0, hW0⟩ : ∃ W, w.alloc (.cells #[.pointer (some ⟨db, 0, none⟩)] 24) = W := ⟨_, rfl⟩
  obtain ⟨W, hW⟩ : ∃ W, W0.alloc (.cells #[.int .i64 i] 3) = W := ⟨_, rfl⟩
  have HM : Hid (Mods Nil w W) := by rw [← hW, ← hW0]; exact ((Mods.refl Nil w).alloc _).alloc _
  have B2 : Hid (Blk W w.heap.size 24 #[.pointer (some ⟨db, 0, none⟩)]) := by subst hW; subst hW0; exact Lib.hid ((Blk.new w 24 #[.pointer (some ⟨db, 0, none⟩)]).alloc _)
  have B3 : Hid (Blk W W0.heap.size 3 #[.int .i64 i]) := by subst hW; exact Lib.hid (Blk.new W0 3 #[.int .i64 i])
  have K2 : ∀ V, Mods Nil W V → V.cell? ⟨w.heap.size, 0, none⟩ = some (.pointer (some ⟨db, 0, none⟩)) := fun V hm => by simpa using (B2.out.mods hm (fun h => h)).cell 0
  have K3 : ∀ V, Mods Nil W V → V.cell? ⟨W0.heap.size, 0, none⟩ = some (.int .i64 i) := fun V hm => by simpa using (B3.out.mods hm (fun h => h)).cell 0
  have QL : Hid (∀ V, Mods Nil W V → Calls Try.prog 64 #[.pointer (some ⟨db, 0, none⟩)] V fun e V' => e = .returned (.int .i64 (d.L.length : Int)) ∧ Mods Nil W V') := Lib.hid (fun V hV => (dlen_any ((h.nil HM.out).nil hV)).mono fun e V' ⟨h1, h2⟩ => ⟨h1, by rw [← h2]; exact hV⟩)
  obtain ⟨n, hn⟩ : ∃ n, d.L.length = n := ⟨_, rfl⟩
  rw [hn] at QL hl hi
  have hw1 : IntKind.i64.wrap ((n : Int) - 1) = (n : Int) - 1 := by rw [IntKind.wrap_i64]; omega
  clear h hn
  by_cases h0 : i < 0
  · clear hi
    go_enter Try.func34, Try.ntmps34
    go_wp2_with fail
    refine gq_region (by kernel_rfl) (by kernel_rfl) ?_
    repeat (first
      | go_big_quiet_skip
      | (go_big_quiet_want; first
          | (refine gq_call QL.out ?_ ?_; (focus (intro V; go_simp; done)); go_big_quiet_on)
          | (refine gq_op (v := ?_) ?_ ?_; rotate_left; (focus (intro V hV; go_simp; try with_reducible rfl)); go_big_quiet_on))
        simp only [Act.put, List.setIfInBounds_toArray, List.set_cons_zero, List.set_cons_succ])
    refine wpQuiet_nil ?_
    intro V hV
    clear K2 K3
    go_wp2_with fail
    go_ret2
    exact ⟨rfl, HM.out.trans hV⟩
  · have h0I : decide (i < 0) = false := by simpa using h0
    have h1I : (n : Int) - 1 ≤ i := by omega
    clear hi
    go_enter Try.func34, Try.ntmps34
    go_wp2_with fail
    refine gq_region (by kernel_rfl) (by kernel_rfl) ?_
    repeat (first
      | go_big_quiet_skip
      | (go_big_quiet_want; first
          | (refine gq_call QL.out ?_ ?_; (focus (intro V; go_simp; done)); go_big_quiet_on)
          | (refine gq_op (v := ?_) ?_ ?_; rotate_left; (focus (intro V hV; go_simp; try with_reducible rfl)); go_big_quiet_on))
        simp only [Act.put, List.setIfInBounds_toArray, List.set_cons_zero, List.set_cons_succ])
    refine wpQuiet_nil ?_
    intro V hV
    clear K2 K3
    go_wp2_with fail
    go_ret2
    exact ⟨rfl, HM.out.trans hV⟩
set_option maxHeartbeats 1600000 in
theorem copen_ok (h : DiskAt w base db d) (hb : base ≤ w.heap.size) (hl : d.L.length ≤ 65536) {at_ : Nat} (h0 : d.at_ (at_ : Int) = 0) (h1 : d.at_ ((at_ : Int) + 1) = 0) : Calls Try.prog 34 #[.pointer (some ⟨db, 0, none⟩), .int .i64 (at_ : Int)] w fun e w' => ∃ cb, e = .returned (.tuple #[.pointer (some ⟨cb, 0, none⟩), .int .i64 0]) ∧ CellAt w' base cb db d (cellOpen d at_) ∧ Mods Nil w w' := by
  obtain ⟨W0, hW0⟩ : ∃ W, w.alloc (.cells #[.pointer (some ⟨db, 0, none⟩)] 24) = W := ⟨_, rfl⟩
  obtain ⟨W, hW⟩ : ∃ W, W0.alloc (.cells #[.int .i64 (at_ : Int)] 3) = W := ⟨_, rfl⟩
  have HM : Hid (Mods Nil w W) := by rw [← hW, ← hW0]; exact ((Mods.refl Nil w).alloc _).alloc _
  have B2 : Hid (Blk W w.heap.size 24 #[.pointer (some ⟨db, 0, none⟩)]) := by subst hW; subst hW0; exact Lib.hid ((Blk.new w 24 #[.pointer (some ⟨db, 0, none⟩)]).alloc _)
  have B3 : Hid (Blk W W0.heap.size 3 #[.int .i64 (at_ : Int)]) := by subst hW; exact Lib.hid (Blk.new W0 3 #[.int .i64 (at_ : Int)])
  have K2 : ∀ V, Mods Nil W V → V.cell? ⟨w.heap.size, 0, none⟩ = some (.pointer (some ⟨db, 0, none⟩)) := fun V hm => by simpa using (B2.out.mods hm (fun h => h)).cell 0
  have K3 : ∀ V, Mods Nil W V → V.cell? ⟨W0.heap.size, 0, none⟩ = some (.int .i64 (at_ : Int)) := fun V hm => by simpa using (B3.out.mods hm (fun h => h)).cell 0
  have QL : Hid (∀ V, Mods Nil W V → Calls Try.prog 64 #[.pointer (some ⟨db, 0, none⟩)] V fun e V' => e = .returned (.int .i64 (d.L.length : Int)) ∧ Mods Nil W V') := Lib.hid (fun V hV => (dlen_any ((h.nil HM.out).nil hV)).mono fun e V' ⟨h1, h2⟩ => ⟨h1, by rw [← h2]; exact hV⟩)
  have H0 := Lib.hid h0
  have H1 := Lib.hid h1
  obtain ⟨-, hz0, hz1⟩ := PD.at_zero h1
  obtain ⟨n, hn⟩ : ∃ n, d.L.length = n := ⟨_, rfl⟩
  rw [hn] at QL hl hz1
  have hw1 : IntKind.i64.wrap ((n : Int) - 1) = (n : Int) - 1 := by rw [IntKind.wrap_i64]; omega
  have hge : (at_ : Int) < (n : Int) - 1 := by omega
  have h0I : decide ((at_ : Int) < 0) = false := by simp
  have HA := Lib.hid (show at_ ≤ 65536 by omega)
  have HD := Lib.hid (h.nil HM.out)
  have HB := Lib.hid hb
  clear h hn h0 h1 hz0 hz1 hb hl
  go_enter Try.func34, Try.ntmps34
  go_wp2_with fail
  refine gq_region (by kernel_rfl) (by kernel_rfl) ?_
  repeat (first
    | go_big_quiet_skip
    | (go_big_quiet_want; first
        | (refine gq_call QL.out ?_ ?_; (focus (intro V; go_simp; done)); go_big_quiet_on)
        | (refine gq_op (v := ?_) ?_ ?_; rotate_left; (focus (intro V hV; go_simp; try with_reducible rfl)); go_big_quiet_on))
      simp only [Act.put, List.setIfInBounds_toArray, List.set_cons_zero, List.set_cons_succ])
  refine wpQuiet_nil ?_
  intro V1 hV1
  have k2 := K2 V1 hV1
  have k3 := K3 V1 hV1
  have D1 := Lib.hid (HD.out.nil hV1)
  have M1 := Lib.hid (HM.out.trans hV1)
  have B21 := Lib.hid (B2.out.mods hV1 (fun h => h))
  have B31 := Lib.hid (B3.out.mods hV1 (fun h => h))
  clear K2 K3 hV1
  go_wp2_with fail
  have hzc : (Try.zeroCells146.setIfInBounds 0 (.pointer (some ⟨db, 0, none⟩))).setIfInBounds 1 (.int .i64 (at_ : Int)) = (cellC db (cellNew at_)).toArray := by kernel_rfl
  rw [hzc]
  clear hzc k2 k3
  obtain ⟨V2, hV2⟩ : ∃ W, V1.alloc (.cells (cellC db (cellNew at_)).toArray 146) = W := ⟨_, rfl⟩
  obtain ⟨V3, hV3⟩ : ∃ W, V2.alloc (.cells #[.pointer (some ⟨V1.heap.size, 0, none⟩)] 67) = W := ⟨_, rfl⟩
  rw [hV2, hV3]
  have s2 : V2.heap.size = V1.heap.size + 1 := by rw [← hV2]; simp
  have M2 : Mods Nil V1 V2 := by rw [← hV2]; exact (Mods.refl Nil V1).alloc _
  have M23 : Mods Nil V2 V3 := by rw [← hV3]; exact (Mods.refl Nil V2).alloc _
  have C3 : Hid (CellAt V3 base V1.heap.size db d (openK d at_ 0)) := Lib.hid ⟨(D1.out.nil M2).nil M23, ⟨by rw [← hV3, ← hV2]; exact (Blk.new V1 _ _).alloc _, Nat.le_trans HB.out M1.out.size, cellNew_ok HA.out⟩⟩
  have B63 : Hid (Blk V3 (V1.heap.size + 1) 67 #[.pointer (some ⟨V1.heap.size, 0, none⟩)]) := Lib.hid (by rw [← s2, ← hV3]; exact Blk.new V2 _ _)
  have B23 := Lib.hid ((B21.out.mods M2 (fun h => h)).mods M23 (fun h => h))
  have B33 := Lib.hid ((B31.out.mods M2 (fun h => h)).mods M23 (fun h => h))
  have M3 := Lib.hid ((M1.out.trans M2).trans M23)
  have HRD : Hid (∀ j : Nat, j < 2 → d.at_ ((at_ : Int) + (j : Int)) = 0) := Lib.hid (fun j hj => by
    match j, hj with
    | 0, _ => simpa using H0.out
    | 1, _ => exact H1.out)
  have HSZ : Hid (w.heap.size ≤ V1.heap.size) := Lib.hid M1.out.size
  clear M2 M23 s2 hV2 hV3 hw1 hge h0I
  go_loopw [28] (fun k wr => ∃ (j : Nat), j ≤ 2 ∧ k = .int .i64 (j : Int) ∧ CellAt wr base V1.heap.size db d (openK d at_ j) ∧ Blk wr w.heap.size 24 #[.pointer (some ⟨db, 0, none⟩)] ∧ Blk wr W0.heap.size 3 #[.int .i64 (at_ : Int)] ∧ Blk wr (V1.heap.size + 1) 67 #[.pointer (some ⟨V1.heap.size, 0, none⟩)] ∧ Mods Nil w wr) (fun k _ => 2 - (intOf k).toNat)
  case atStart => exact ⟨0, by omega, rfl, C3.out, B23.out, B33.out, B63.out, M3.out⟩
  case round =>
    obtain ⟨j, hj, rfl, hc, h2, h3, h6, hm⟩ := hrel
    have CR := Lib.hid hc
    have X2 := Lib.hid h2
    have X3 := Lib.hid h3
    have X6 := Lib.hid h6
    have XM := Lib.hid hm
    have k6 : wr.cell? ⟨V1.heap.size + 1, 0, none⟩ = some (.pointer (some ⟨V1.heap.size, 0, none⟩)) := by simpa using h6.cell 0
    clear hc h2 h3 h6 hm
    by_cases hlt : j < 2
    · have hltI : (j : Int) < 2 := by omega
      have HTK : Hid (Calls Try.prog 89 #[.int .i64 (j : Int), .pointer (some ⟨w.heap.size, 0, none⟩), .pointer (some ⟨W0.heap.size, 0, none⟩), .pointer (some ⟨V1.heap.size + 1, 0, none⟩)] wr fun e w' => e = .returned (.int .i64 0) ∧ CellAt w' base V1.heap.size db d (openK d at_ (j + 1)) ∧ Mods (fun k => k = V1.heap.size) wr w') := Lib.hid (by
        have := ctake_any CR.out X2.out (by rw [openK_at]; exact X3.out) X6.out (half := j) (by omega) (by rw [openK_at]; exact HRD.out j hlt)
        rw [openK_at] at this
        exact this)
      have hne2 : Hid (w.heap.size ≠ V1.heap.size) := Lib.hid (X2.out.ne_ CR.out.2.blk (by decide))
      have hne3 : Hid (W0.heap.size ≠ V1.heap.size) := Lib.hid (X3.out.ne_ CR.out.2.blk (by decide))
      clear k6
      go_wp2_with (first
        | (go_at_call 89; refine HTK.out.mono ?_; rintro e w5 ⟨rfl, c5, m5⟩; have C5 := Lib.hid c5; have M5 := Lib.hid m5; clear c5 m5))
      exact ⟨⟨j + 1, hlt, by go_num, C5.out, X2.out.mods M5.out hne2.out, X3.out.mods M5.out hne3.out, X6.out.mods M5.out (by omega), XM.out.nil_trans M5.out (fun i hi => by rw [hi]; exact HSZ.out)⟩, by simp [intOf]; omega⟩
    · obtain rfl : j = 2 := by omega
      rw [openK_two] at CR
      go_wp2_with fail
      go_ret2
      exact ⟨_, rfl, CR.out, XM.out⟩
end
end Go.Proofs.Ytdllgmhipenidaa
