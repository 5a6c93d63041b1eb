/- Package cell: Set, to its end. -/
import Derived.Test.YtdllgmhipenidaaCel8
namespace Go.Proofs.Ytdllgmhipenidaa
set_option maxRecDepth 100000
open Go.RowKit
set_option linter.unusedVariables false
theorem cw_wp_load {P : Program} {o : Oper} {a : Act} {w : World} {K : Act → World → Prop} {Q : Exit → Act → World → Prop} (hg : o.guard = none) (ty : TypeId) (x : Operand) (ho : o.op = .load ty x) (p : Addr) (hx : a.eval x = .pointer (some p)) (v : Value) (hr : (Instr.loadAt ty (.pointer (some p))).run P w = .ok v w) (hk : K (a.put o.dst v) w) : o.wp P a w K Q := by
  unfold Oper.wp execOp
  simp only [ho, hx, Sem.run_bind, hr, Result.andThen_ok, Sem.run_pure]
  exact hk
theorem cw_wp_store {P : Program} {o : Oper} {a : Act} {w w' : World} {K : Act → World → Prop} {Q : Exit → Act → World → Prop} (hg : o.guard = none) (ty : TypeId) (x y : Operand) (ho : o.op = .store ty x y) (hd : o.dst = none) (p : Addr) (hx : a.eval x = .pointer (some p)) (v : Value) (hy : a.eval y = v) (hr : (storeVar ty p v).run P w = .ok () w') (hk : K a w') : o.wp P a w K Q := by
  unfold Oper.wp execOp
  simp only [ho, hx, hy, Instr.storeAt, Instr.sureAddr, Sem.run_bind, Sem.run_pure, Result.andThen_ok, hr]
  simpa [Oper.upon, hd, Act.put] using hk
theorem takeL {P : Program} {l : List Oper} {md : Region.Mode} {Q : Exit → Act → World → Prop} {S : World → Prop} {i : Nat} {oi : Oper} {v : Value} {fuel : Nat} {listed : Array Bool} {a : Act} {w : World} (hi : l[i]? = some oi)
    (hs : Region.noSelect l.toArray = true) (hf : Region.free md l.toArray listed i = true) (hr : (Region.ready md l.toArray listed).contains i = true)
    (hQ : ∀ c a w, Q (.panic c) (a.put oi.dst v) w → Q (.panic c) a w) (hy : YieldsIf P l.toArray S oi v a) (hS : S w)
    (h : wpAnyH P md l.toArray Q S fuel (listed.setIfInBounds i true) (a.put oi.dst v) w) : wpAnyH P md l.toArray Q S (fuel + 1) listed a w :=
  wpAnyH_take (by simpa using hi) hs hf hr hQ hy hS h
theorem readyL {P : Program} {l : List Oper} {md : Region.Mode} {Q : Exit → Act → World → Prop} {S : World → Prop} {fuel : Nat} {listed : Array Bool} {a : Act} {w : World} {i : Nat} {o : Oper} {rs : List Nat} (ho : l[i]? = some o)
    (h : ∀ K' : Act → World → Prop, Shut (∀ a w, S w → (S w → wpAnyH P md l.toArray Q S fuel (listed.setIfInBounds i true) a w) → K' a w) → if Region.wanted o (yielded l.toArray a.tmps) = true then Oper.wp P o a w K' Q else K' (a.put o.dst undef) w)
    (hs : AllReadyH P md l.toArray Q S fuel listed a w rs) : AllReadyH P md l.toArray Q S fuel listed a w (i :: rs) :=
  AllReadyH.cons (by simpa using ho) h hs
theorem run_store_int (w : World) {p : Addr} (z : Int) (hf : w.frozen? p = false) (hc : (w.cell? p).isSome = true) : (storeVar 3 p (.int .i64 z)).run Try.prog w = .ok () (w.setCell p (.int .i64 z)) := by
  obtain ⟨u, hu⟩ := Option.isSome_iff_exists.1 hc
  have hs : (sizeOf 3).run Try.prog w = .ok 1 w := by rfl
  simp [storeVar, Sem.run_bind, hs, Value.cells, go_sem, hu, hf]
theorem range_mods {S : Nat → Prop} {w w' : World} {g o : Nat} {cs : List Value} (h : w.rangeAt g o cs) (hm : Mods S w w') (hg : ¬ S g) : w'.rangeAt g o cs := fun j u hu => by
  have h1 := h j u hu
  rw [World.cell?_of_block (hm.block g (World.block_lt_of_cell? w _ h1) hg)]
  exact h1
section
variable {w : World} {base cb db : Nat} {c : PCell} {d : PD}
set_option maxHeartbeats 1600000 in
theorem cset_go (h : CellAt w base cb db d c) (hW : d.W.length ≤ 900) {A : Option Addr} {cc n : Nat} {s : List UInt8} (hs : Sl w A cc (bts s)) (hn : s.length = n) (h43 : n ≤ 43) (her : c.err = 0) (hg : c.great + 1 < 18446744073709551616) :
    Calls Try.prog 36 #[.pointer (some ⟨cb, 0, none⟩), .slice A n cc] w fun e w' => e = .returned (.int .i64 (c.put d (layC (c.great + 1) s)).2) ∧ DiskAt w' base db (c.put d (layC (c.great + 1) s)).1 ∧ CellIn w' base cb db (if (c.put d (layC (c.great + 1) s)).2 ≠ 0 then c.fail (c.put d (layC (c.great + 1) s)).2 else c.tell s) ∧ CM base w w' := by
  obtain ⟨hD, hC⟩ := h
  have hI : (n : Int) ≤ 43 := by omega
  have c75 := hC.cells.2.2.2
  rw [her] at c75
  have HG := Lib.hid hC.great
  have HGL := Lib.hid (show c.great < 18446744073709551616 by omega)
  obtain ⟨t, ht⟩ : ∃ t, c.great + 1 = t := ⟨_, rfl⟩
  have htm : t % 18446744073709551616 = t := Nat.mod_eq_of_lt (by omega)
  have HNX := Lib.hid (fun W => cnext_any W HGL.out)
  rw [ht, htm] at HNX
  have heq := fun V => run_equal_turns V (x := t) (y := 0) (by omega) (by omega)
  rw [decide_eq_false (by omega)] at heq
  obtain ⟨g, hgg⟩ : ∃ g, c.great = g := ⟨_, rfl⟩
  rw [hgg] at HG HNX
  have h43s : s.length ≤ 43 := by omega
  obtain ⟨b, hb⟩ : ∃ b, layC t s = b := ⟨_, rfl⟩
  have hb64 : b.length = 64 := by rw [← hb]; exact layC_length h43s
  have HB64 := Lib.hid hb64
  have HLAY : Hid (∀ V, Mods Nil w V → Calls Try.prog 97 #[.agg (bts (eight t)).toArray, .slice A n cc] V fun e w' => e = .returned (.agg (bts b).toArray) ∧ Mods Nil V w') := Lib.hid (fun V hV => by
    have := clay_any (hs.mods hV (fun _ _ h => h)) hn h43 t
    rw [hb] at this
    exact this)
  have HC := Lib.hid hC
  have HD := Lib.hid hD
  have HW := Lib.hid hW
  have HTELL : Hid (c.tell s = { c with told := b, spare := 1 - c.spare, great := t }) := Lib.hid (by unfold PCell.tell; rw [ht, hb])
  have HTOK := Lib.hid (hC.ok.tell h43s hg)
  rw [HTELL.out] at HTOK
  rw [ht, hb]
  have HPE := Lib.hid (c.put_err d b)
  have HP : Hid (∀ V, CellAt V base cb db d c → Calls Try.prog 98 #[.pointer (some ⟨cb, 0, none⟩), .agg (bts b).toArray] V fun e w' => e = .returned (.int .i64 (c.put d b).2) ∧ DiskAt w' base db (c.put d b).1 ∧ DM base V w') := Lib.hid (fun V hV => cput_any hV hW hb64)
  obtain ⟨e1, he1⟩ : ∃ e, (c.put d b).2 = e := ⟨_, rfl⟩
  obtain ⟨D1, hD1⟩ : ∃ D, (c.put d b).1 = D := ⟨_, rfl⟩
  rw [he1] at HPE
  rw [he1, hD1] at HP
  rw [he1, hD1]
  have hspare : ((c.spare : Nat) : Int) ≤ 1 := by have := hC.ok.spare; omega
  have HER := Lib.hid her
  clear hC hD hs hn h43 her hg ht htm hgg h43s hb hb64 hW he1 hD1
  by_cases hz : e1 = 0
  · subst hz
    rw [if_neg (by simp)]
    go_enter Try.func36, Try.ntmps36
    go_wp2_with (first
      | (go_at_call 98; (refine (HP.out _ ⟨HD.out.nil M6.out, HC.out.nil M6.out⟩).mono ?_; rintro e W7 ⟨rfl, d7, m7⟩; have D7 := Lib.hid d7; have C7 := Lib.hid ((HC.out.nil M6.out).dm m7); have T7 := Lib.hid (T6.out.dm m7 (by decide)); have B7 := Lib.hid (B6.out.dm m7 (by decide)); have M7 := Lib.hid ((CM.nil M6.out).trans (CM.dm m7)); clear d7 m7; have c75w := C7.out.cells.2.2.2; have f75w := C7.out.blk.frozen 75; obtain ⟨W8, hW8⟩ : ∃ W, W7.setCell ⟨cb, 75, none⟩ (.int .i64 0) = W := ⟨_, rfl⟩; have q8 := C7.out.setErr HPE.out; rw [hW8] at q8; have C8 := Lib.hid q8.1; have D8 := Lib.hid (D7.out.cellSet C7.out q8.2); have M8 := Lib.hid (M7.out.trans (C7.out.cm q8.2)); have T8 := Lib.hid (T7.out.mods q8.2 (T7.out.ne_ C7.out.blk (by decide))); have B8 := Lib.hid (B7.out.mods q8.2 (B7.out.ne_ C7.out.blk (by decide))); clear q8; have c75w8 : W8.cell? ⟨cb, 75, none⟩ = some (.int .i64 0) := C8.out.cells.2.2.2))
      | (refine gw_load_mid (by rfl) 142 _ rfl W4.heap.size 0 rfl (bts b) _ (blkL_range B6.out) Try.underlying142 rfl (infoCBl HB64.out) ?_)
      | (refine wpList_store_mk rfl 142 (.tmp 6) (.tmp 31) rfl rfl W4.heap.size rfl 142 (bts zeros64).toArray (bts b).toArray rfl B5.out (by rw [btsA_size, btsA_size, HB64.out]; rfl) (btsA_all _) (infoCBa HB64.out) rfl ?_; intro W6 b9 m9; have B6 := Lib.hid b9; have T6 := Lib.hid (T5.out.mods m9 (by have := N5.out; omega)); have M6 := Lib.hid (M5.out.nil_trans m9 (fun i hi => by have := S5.out; omega)); clear b9 m9)
      | (refine gw_alloc_of run_alloc_cb rfl rfl ?_; intro W5 b9 m9 s9; have B5 := Lib.hid b9; have T5 := Lib.hid (T4.out.mods m9 (fun h => h)); have M5 := Lib.hid (M4.out.trans m9); have S5 := Lib.hid (show w.heap.size ≤ W4.heap.size from M4.out.size); have N5 : Hid (W1.heap.size < W4.heap.size) := Lib.hid T4.out.lt; clear b9 m9 s9)
      | (go_at_call 97; refine (HLAY.out _ M3.out).mono ?_; rintro e W4 ⟨rfl, m9⟩; have T4 := Lib.hid (B3.out.mods m9 (fun h => h)); have M4 := Lib.hid (M3.out.trans m9); clear m9)
      | (refine gw_load_mid (by rfl) 144 _ rfl W1.heap.size 0 rfl (bts (eight t)) _ (blkL_range B3.out) Try.underlying144 rfl (infoCTl t) ?_)
      | (refine gw_alloc_of run_alloc_ct rfl rfl ?_; intro W2 b9 m9 s9; have B2 := Lib.hid b9; have M2 := Lib.hid (M1.out.trans m9); have S2 := Lib.hid (show w.heap.size ≤ W1.heap.size from M1.out.size); clear b9 m9 s9)
      | (refine wpList_store_mk rfl 144 (.tmp 5) (.tmp 25) rfl rfl W1.heap.size rfl 144 (bts (eight 0)).toArray (bts (eight t)).toArray rfl B2.out (by rw [btsA_size, btsA_size]; rfl) (btsA_all _) (infoCTa t) rfl ?_; intro W3 b9 m9; have B3 := Lib.hid b9; have M3 := Lib.hid (M2.out.nil_trans m9 (fun i hi => by have := S2.out; omega)); clear b9 m9)
      | (refine gw_load_mid (by rfl) 144 _ rfl cb 67 rfl (bts (eight g)) _ HG.out Try.underlying144 rfl (infoCTl g) ?_)
      | (go_at_call 96; refine (HNX.out _).mono ?_; rintro e W1 ⟨rfl, m9⟩; have M1 := Lib.hid m9; clear m9)
      | (refine wpList_build_at rfl 144 #[] rfl (bts (eight 0)).toArray build_turn0 ?_))
    have c2w := C8.out.cells.2.2.1
    have f2w := C8.out.blk.frozen 2
    have SPL : Hid (c.spare ≤ 1) := Lib.hid (by omega)
    have hwsp : IntKind.i64.wrap (1 - (c.spare : Int)) = 1 - (c.spare : Int) := by rw [IntKind.wrap_i64]; omega
    have NB : Hid (W4.heap.size ≠ cb) := Lib.hid (B8.out.ne_ C8.out.blk (by decide))
    have NT : Hid (W1.heap.size ≠ cb) := Lib.hid (T8.out.ne_ C8.out.blk (by decide))
    have C8l : Hid ((cellC db (c.fail 0)).toArray.size = 76) := Lib.hid (by rw [List.size_toArray]; exact cellC_length C8.out.ok.len)
    obtain ⟨V1, hV1⟩ : ∃ V, (W8.drew).setCells cb 3 (bts b) = V := ⟨_, rfl⟩
    obtain ⟨V2, hV2⟩ : ∃ V, V1.setCell ⟨cb, 2, none⟩ (.int .i64 (1 - (c.spare : Int))) = V := ⟨_, rfl⟩
    obtain ⟨V3, hV3⟩ : ∃ V, V2.setCells cb 67 (bts (eight t)) = V := ⟨_, rfl⟩
    have e1mI : (((1 - c.spare : Nat)) : Int) = 1 - (c.spare : Int) := by have := SPL.out; omega
    have BLK1 := setCells_blk (bts b) 3 W8.drew (cellC db (c.fail 0)) C8.out.blk.drew (by rw [cellC_length C8.out.ok.len, bts_length, HB64.out]; omega)
    rw [hV1] at BLK1
    have RUN2 : Hid ((storeVar 3 ⟨cb, 2, none⟩ (.int .i64 (1 - (c.spare : Int)))).run Try.prog V1 = .ok () V2) := by
      rw [← hV2]
      exact Lib.hid (run_store_int V1 (1 - (c.spare : Int)) (BLK1.frozen 2) (by rw [BLK1.cell, Array.getElem?_eq_getElem (by simp [cellC_length C8.out.ok.len, HB64.out])]; rfl))
    have TH0 : Hid ((W8.drew).there cb 3 (bts b).toArray.size) := Lib.hid (by rw [btsA_size, HB64.out]; exact (World.there_drew _ _ _ _).2 (blk_there C8.out.blk (by rw [C8l.out]; omega)))
    have hS0 : Hid ((fun V => V.rangeAt W4.heap.size 0 (bts b) ∧ V.rangeAt W1.heap.size 0 (bts (eight t)) ∧ V.there cb 3 64 ∧ V.there cb 67 8) W8.drew) := Lib.hid ⟨(World.rangeAt_drew _ _ _ _).2 (blkL_range B8.out), (World.rangeAt_drew _ _ _ _).2 (blkL_range T8.out), (World.there_drew _ _ _ _).2 (blk_there C8.out.blk (by rw [C8l.out]; omega)), (World.there_drew _ _ _ _).2 (blk_there C8.out.blk (by rw [C8l.out]; omega))⟩
    have K1 : Mods (fun i => i = cb) W8.drew V1 := by rw [← hV1]; exact setCells_mods (bts b) 3 W8.drew
    have K2 : Mods (fun i => i = cb) V1 V2 := by rw [← hV2]; exact Mods.setCell (S := fun i => i = cb) (p := ⟨cb, 2, none⟩) (Mods.refl _ _) (fun _ => rfl) _
    have K3 : Mods (fun i => i = cb) V2 V3 := by rw [← hV3]; exact setCells_mods (bts (eight t)) 67 V2
    have BLK2 : Hid (∃ cs, Blk V2 cb 146 cs ∧ cs.size = 76) := Lib.hid (by rw [← hV2]; exact ⟨_, BLK1.set_ 2 _, by simp [cellC_length C8.out.ok.len, HB64.out]⟩)
    have BLK1s : Hid (∃ cs, Blk V1 cb 146 cs ∧ cs.size = 76) := Lib.hid ⟨_, BLK1, by simp [cellC_length C8.out.ok.len, HB64.out]⟩
    have KEEP : Hid (∀ U U', (fun V => V.rangeAt W4.heap.size 0 (bts b) ∧ V.rangeAt W1.heap.size 0 (bts (eight t)) ∧ V.there cb 3 64 ∧ V.there cb 67 8) U → Mods (fun i => i = cb) U U' → (∃ cs, Blk U' cb 146 cs ∧ cs.size = 76) → (fun V => V.rangeAt W4.heap.size 0 (bts b) ∧ V.rangeAt W1.heap.size 0 (bts (eight t)) ∧ V.there cb 3 64 ∧ V.there cb 67 8) U') := Lib.hid (fun U U' hU hm ⟨cs, hb, hs⟩ => ⟨range_mods hU.1 hm NB.out, range_mods hU.2.1 hm NT.out, blk_there hb (by omega), blk_there hb (by omega)⟩)
    have hS1 : Hid ((fun V => V.rangeAt W4.heap.size 0 (bts b) ∧ V.rangeAt W1.heap.size 0 (bts (eight t)) ∧ V.there cb 3 64 ∧ V.there cb 67 8) V1) := Lib.hid (KEEP.out _ _ hS0.out K1 BLK1s.out)
    have hS2 : Hid ((fun V => V.rangeAt W4.heap.size 0 (bts b) ∧ V.rangeAt W1.heap.size 0 (bts (eight t)) ∧ V.there cb 3 64 ∧ V.there cb 67 8) V2) := Lib.hid (KEEP.out _ _ hS1.out K2 BLK2.out)
    have TW := CellIn.tellW (w := W8.drew) (W := V3) (C8.out.nil (Mods.refl Nil W8).drew) HB64.out (t := t) (spare := 1 - c.spare) (by rw [← hV3, ← hV2, ← hV1, e1mI]) (by have := HTOK.out; exact ⟨this.at_, this.spare, this.len, this.size, this.great, this.turn, by simp [PCell.fail]⟩)
    have BLK3 : Hid (∃ cs, Blk V3 cb 146 cs ∧ cs.size = 76) := Lib.hid ⟨_, TW.1.blk, by rw [List.size_toArray]; exact cellC_length TW.1.ok.len⟩
    have hS3 : Hid ((fun V => V.rangeAt W4.heap.size 0 (bts b) ∧ V.rangeAt W1.heap.size 0 (bts (eight t)) ∧ V.there cb 3 64 ∧ V.there cb 67 8) V3) := Lib.hid (KEEP.out _ _ hS2.out K3 BLK3.out)
    have TH2 : Hid (V2.there cb 67 (bts (eight t)).toArray.size) := Lib.hid (by rw [btsA_size]; exact hS2.out.2.2.2)
    have FIN : Hid (DiskAt V3 base db D1 ∧ CellIn V3 base cb db (c.tell s) ∧ CM base w V3) := Lib.hid (by
      refine ⟨(D8.out.nil (Mods.refl Nil W8).drew).cellSet (C8.out.nil (Mods.refl Nil W8).drew) TW.2, ?_, (M8.out.trans (CM.nil (Mods.refl Nil W8).drew)).trans ((C8.out.nil (Mods.refl Nil W8).drew).cm TW.2)⟩
      rw [HTELL.out]
      have := TW.1
      unfold PCell.fail at this
      dsimp only at this
      rw [← HER.out] at this
      exact this)
    have c2V0 : (W8.drew).cell? ⟨cb, 2, none⟩ = some (.int .i64 (c.spare : Int)) := (C8.out.nil (Mods.refl Nil W8).drew).cells.2.2.1
    have c2V1 : V1.cell? ⟨cb, 2, none⟩ = some (.int .i64 (c.spare : Int)) := by
      have hr : (W8.drew).rangeAt cb 2 [.int .i64 (c.spare : Int)] := fun j u hu => by
        cases j with
        | zero => injection hu with hu; subst hu; exact c2V0
        | succ j => cases hu
      have := World.rangeAt_setCells_apart hr cb 3 (bts b) (.inr (.inl (by simp)))
      rw [hV1] at this
      exact this 0 _ rfl
    have LD0 : Hid ((Instr.loadAt 3 (.pointer (some ⟨cb, 2, none⟩))).run Try.prog W8.drew = .ok (.int .i64 (c.spare : Int)) W8.drew) := Lib.hid (by simp [Instr.loadAt, c2V0, go_sem])
    have LD1 : Hid ((Instr.loadAt 3 (.pointer (some ⟨cb, 2, none⟩))).run Try.prog V1 = .ok (.int .i64 (c.spare : Int)) V1) := Lib.hid (by simp [Instr.loadAt, c2V1, go_sem])
    clear K1 K2 K3 BLK1 TW KEEP c2V0 c2V1 BLK2 BLK1s BLK3
    refine wp_region_held_drew (S := (fun V => V.rangeAt W4.heap.size 0 (bts b) ∧ V.rangeAt W1.heap.size 0 (bts (eight t)) ∧ V.there cb 3 64 ∧ V.there cb 67 8)) (by kernel_rfl) hS0.out (fun hS => ?_)
    refine takeL (i := 0) (v := ?_) rfl (by kernel_rfl) (by kernel_rfl) (by kernel_rfl) (fun _ _ _ h => h) (Or.inl ⟨by rfl, ?_⟩) hS ?_
    rotate_left
    · intro V hV
      go_simp
      try with_reducible rfl
    simp only [Act.put, List.setIfInBounds_toArray, List.set_cons_zero, List.set_cons_succ]
    refine takeL (i := 1) (v := ?_) rfl (by kernel_rfl) (by kernel_rfl) (by kernel_rfl) (fun _ _ _ h => h) (Or.inl ⟨by rfl, ?_⟩) hS ?_
    rotate_left
    · intro V hV
      go_simp
      try with_reducible rfl
    simp only [Act.put, List.setIfInBounds_toArray, List.set_cons_zero, List.set_cons_succ]
    refine takeL (i := 2) (v := ?_) rfl (by kernel_rfl) (by kernel_rfl) (by kernel_rfl) (fun _ _ _ h => h) (Or.inl ⟨by rfl, ?_⟩) hS ?_
    rotate_left
    · intro V hV
      go_simp
      try with_reducible rfl
    simp only [Act.put, List.setIfInBounds_toArray, List.set_cons_zero, List.set_cons_succ]
    refine takeL (i := 3) rfl (by kernel_rfl) (by kernel_rfl) (by kernel_rfl) (fun _ _ _ h => h) (yieldsIf_load_mid (by rfl) 142 _ rfl W4.heap.size 0 rfl (bts b) _ (fun V hV => hV.1) Try.underlying142 rfl (infoCBl HB64.out)) hS ?_
    simp only [Act.put, List.setIfInBounds_toArray, List.set_cons_zero, List.set_cons_succ]
    refine takeL (i := 4) (v := ?_) rfl (by kernel_rfl) (by kernel_rfl) (by kernel_rfl) (fun _ _ _ h => h) (Or.inl ⟨by rfl, ?_⟩) hS ?_
    rotate_left
    · intro V hV
      go_simp
      try with_reducible rfl
    simp only [Act.put, List.setIfInBounds_toArray, List.set_cons_zero, List.set_cons_succ]
    refine takeL (i := 5) (v := ?_) rfl (by kernel_rfl) (by kernel_rfl) (by kernel_rfl) (fun _ _ _ h => h) (Or.inl ⟨by rfl, ?_⟩) hS ?_
    rotate_left
    · intro V hV
      go_simp
      try with_reducible rfl
    simp only [Act.put, List.setIfInBounds_toArray, List.set_cons_zero, List.set_cons_succ]
    refine takeL (i := 6) (v := ?_) rfl (by kernel_rfl) (by kernel_rfl) (by kernel_rfl) (fun _ _ _ h => h) (Or.inl ⟨by rfl, ?_⟩) hS ?_
    rotate_left
    · intro V hV
      go_simp
      try with_reducible rfl
    simp only [Act.put, List.setIfInBounds_toArray, List.set_cons_zero, List.set_cons_succ]
    refine takeL (i := 9) rfl (by kernel_rfl) (by kernel_rfl) (by kernel_rfl) (fun _ _ _ h => h) (yieldsIf_load_mid (by rfl) 144 _ rfl W1.heap.size 0 rfl (bts (eight t)) _ (fun V hV => hV.2.1) Try.underlying144 rfl (infoCTl t)) hS ?_
    simp only [Act.put, List.setIfInBounds_toArray, List.set_cons_zero, List.set_cons_succ]
    refine wpAnyH_ready (rs := [7]) (by kernel_rfl) (by simp) (readyL rfl ?_ AllReadyH.nil)
    intro K' hK
    rw [if_pos (by rfl)]
    refine cw_wp_load rfl 3 (.tmp 53) rfl ⟨cb, 2, none⟩ rfl (.int .i64 (c.spare : Int)) LD0.out ?_
    refine hK.out _ _ hS0.out (fun hS => ?_)
    clear hK K'
    simp only [Act.put, List.setIfInBounds_toArray, List.set_cons_zero, List.set_cons_succ]
    refine takeL (i := 8) (v := ?_) rfl (by kernel_rfl) (by kernel_rfl) (by kernel_rfl) (fun _ _ _ h => h) (Or.inl ⟨by rfl, ?_⟩) hS ?_
    rotate_left
    · intro V hV
      go_simp
      try with_reducible rfl
    simp only [Act.put, List.setIfInBounds_toArray, List.set_cons_zero, List.set_cons_succ]
    refine takeL (i := 10) (v := ?_) rfl (by kernel_rfl) (by kernel_rfl) (by kernel_rfl) (fun _ _ _ h => h) (Or.inl ⟨by rfl, ?_⟩) hS ?_
    rotate_left
    · intro V hV
      go_simp
      try with_reducible rfl
    simp only [Act.put, List.setIfInBounds_toArray, List.set_cons_zero, List.set_cons_succ]
    refine takeL (i := 11) (v := ?_) rfl (by kernel_rfl) (by kernel_rfl) (by kernel_rfl) (fun _ _ _ h => h) (Or.inl ⟨by rfl, ?_⟩) hS ?_
    rotate_left
    · intro V hV
      go_simp
      try with_reducible rfl
    simp only [Act.put, List.setIfInBounds_toArray, List.set_cons_zero, List.set_cons_succ]
    refine wpAnyH_ready (rs := [12]) (by kernel_rfl) (by simp) (readyL rfl ?_ AllReadyH.nil)
    intro K' hK
    rw [if_pos (by rfl)]
    refine wp_store_mid 142 (.tmp 58) (.tmp 50) rfl cb 3 (bts b).toArray rfl rfl TH0.out (infoCBa HB64.out) (btsA_all b) ?_
    rw [List.toList_toArray, hV1]
    refine hK.out _ _ hS1.out (fun hS => ?_)
    clear hK K'
    simp only [Act.put]
    refine takeL (i := 13) (v := ?_) rfl (by kernel_rfl) (by kernel_rfl) (by kernel_rfl) (fun _ _ _ h => h) (Or.inl ⟨by rfl, ?_⟩) hS ?_
    rotate_left
    · intro V hV
      go_simp
      try with_reducible rfl
    simp only [Act.put, List.setIfInBounds_toArray, List.set_cons_zero, List.set_cons_succ]
    refine takeL (i := 14) (v := ?_) rfl (by kernel_rfl) (by kernel_rfl) (by kernel_rfl) (fun _ _ _ h => h) (Or.inl ⟨by rfl, ?_⟩) hS ?_
    rotate_left
    · intro V hV
      go_simp
      try with_reducible rfl
    simp only [Act.put, List.setIfInBounds_toArray, List.set_cons_zero, List.set_cons_succ]
    refine wpAnyH_ready (rs := [15]) (by kernel_rfl) (by simp) (readyL rfl ?_ AllReadyH.nil)
    intro K' hK
    rw [if_pos (by rfl)]
    refine cw_wp_store rfl 3 (.tmp 60) (.tmp 55) rfl rfl ⟨cb, 2, none⟩ rfl (.int .i64 (1 - (c.spare : Int))) rfl RUN2.out ?_
    refine hK.out _ _ hS2.out (fun hS => ?_)
    clear hK K'
    refine takeL (i := 16) (v := ?_) rfl (by kernel_rfl) (by kernel_rfl) (by kernel_rfl) (fun _ _ _ h => h) (Or.inl ⟨by rfl, ?_⟩) hS ?_
    rotate_left
    · intro V hV
      go_simp
      try with_reducible rfl
    simp only [Act.put, List.setIfInBounds_toArray, List.set_cons_zero, List.set_cons_succ]
    refine takeL (i := 17) (v := ?_) rfl (by kernel_rfl) (by kernel_rfl) (by kernel_rfl) (fun _ _ _ h => h) (Or.inl ⟨by rfl, ?_⟩) hS ?_
    rotate_left
    · intro V hV
      go_simp
      try with_reducible rfl
    simp only [Act.put, List.setIfInBounds_toArray, List.set_cons_zero, List.set_cons_succ]
    refine wpAnyH_ready (rs := [18]) (by kernel_rfl) (by simp) (readyL rfl ?_ AllReadyH.nil)
    intro K' hK
    rw [if_pos (by rfl)]
    refine wp_store_mid 144 (.tmp 62) (.tmp 56) rfl cb 67 (bts (eight t)).toArray rfl rfl TH2.out (infoCTa t) (btsA_all _) ?_
    rw [List.toList_toArray, hV3]
    refine hK.out _ _ hS3.out (fun hS => ?_)
    clear hK K'
    refine wpAnyH_done (by kernel_rfl) ?_ _
    go_wp2_with fail
    go_ret
    exact ⟨rfl, FIN.out⟩
  · rw [if_pos hz]
    have hzB : (e1 != 0) = true := by simpa using hz
    clear hz
    go_enter Try.func36, Try.ntmps36
    go_wp2_with (first
      | (go_at_call 98; (refine (HP.out _ ⟨HD.out.nil M6.out, HC.out.nil M6.out⟩).mono ?_; rintro e W7 ⟨rfl, d7, m7⟩; have D7 := Lib.hid d7; have C7 := Lib.hid ((HC.out.nil M6.out).dm m7); have T7 := Lib.hid (T6.out.dm m7 (by decide)); have B7 := Lib.hid (B6.out.dm m7 (by decide)); have M7 := Lib.hid ((CM.nil M6.out).trans (CM.dm m7)); clear d7 m7; have c75w := C7.out.cells.2.2.2; have f75w := C7.out.blk.frozen 75; obtain ⟨W8, hW8⟩ : ∃ W, W7.setCell ⟨cb, 75, none⟩ (.int .i64 e1) = W := ⟨_, rfl⟩; have q8 := C7.out.setErr HPE.out; rw [hW8] at q8; have C8 := Lib.hid q8.1; have D8 := Lib.hid (D7.out.cellSet C7.out q8.2); have M8 := Lib.hid (M7.out.trans (C7.out.cm q8.2)); have T8 := Lib.hid (T7.out.mods q8.2 (T7.out.ne_ C7.out.blk (by decide))); have B8 := Lib.hid (B7.out.mods q8.2 (B7.out.ne_ C7.out.blk (by decide))); clear q8; have c75w8 : W8.cell? ⟨cb, 75, none⟩ = some (.int .i64 e1) := C8.out.cells.2.2.2))
      | (refine gw_load_mid (by rfl) 142 _ rfl W4.heap.size 0 rfl (bts b) _ (blkL_range B6.out) Try.underlying142 rfl (infoCBl HB64.out) ?_)
      | (refine wpList_store_mk rfl 142 (.tmp 6) (.tmp 31) rfl rfl W4.heap.size rfl 142 (bts zeros64).toArray (bts b).toArray rfl B5.out (by rw [btsA_size, btsA_size, HB64.out]; rfl) (btsA_all _) (infoCBa HB64.out) rfl ?_; intro W6 b9 m9; have B6 := Lib.hid b9; have T6 := Lib.hid (T5.out.mods m9 (by have := N5.out; omega)); have M6 := Lib.hid (M5.out.nil_trans m9 (fun i hi => by have := S5.out; omega)); clear b9 m9)
      | (refine gw_alloc_of run_alloc_cb rfl rfl ?_; intro W5 b9 m9 s9; have B5 := Lib.hid b9; have T5 := Lib.hid (T4.out.mods m9 (fun h => h)); have M5 := Lib.hid (M4.out.trans m9); have S5 := Lib.hid (show w.heap.size ≤ W4.heap.size from M4.out.size); have N5 : Hid (W1.heap.size < W4.heap.size) := Lib.hid T4.out.lt; clear b9 m9 s9)
      | (go_at_call 97; refine (HLAY.out _ M3.out).mono ?_; rintro e W4 ⟨rfl, m9⟩; have T4 := Lib.hid (B3.out.mods m9 (fun h => h)); have M4 := Lib.hid (M3.out.trans m9); clear m9)
      | (refine gw_load_mid (by rfl) 144 _ rfl W1.heap.size 0 rfl (bts (eight t)) _ (blkL_range B3.out) Try.underlying144 rfl (infoCTl t) ?_)
      | (refine gw_alloc_of run_alloc_ct rfl rfl ?_; intro W2 b9 m9 s9; have B2 := Lib.hid b9; have M2 := Lib.hid (M1.out.trans m9); have S2 := Lib.hid (show w.heap.size ≤ W1.heap.size from M1.out.size); clear b9 m9 s9)
      | (refine wpList_store_mk rfl 144 (.tmp 5) (.tmp 25) rfl rfl W1.heap.size rfl 144 (bts (eight 0)).toArray (bts (eight t)).toArray rfl B2.out (by rw [btsA_size, btsA_size]; rfl) (btsA_all _) (infoCTa t) rfl ?_; intro W3 b9 m9; have B3 := Lib.hid b9; have M3 := Lib.hid (M2.out.nil_trans m9 (fun i hi => by have := S2.out; omega)); clear b9 m9)
      | (refine gw_load_mid (by rfl) 144 _ rfl cb 67 rfl (bts (eight g)) _ HG.out Try.underlying144 rfl (infoCTl g) ?_)
      | (go_at_call 96; refine (HNX.out _).mono ?_; rintro e W1 ⟨rfl, m9⟩; have M1 := Lib.hid m9; clear m9)
      | (refine wpList_build_at rfl 144 #[] rfl (bts (eight 0)).toArray build_turn0 ?_))
    go_ret
    exact ⟨rfl, D8.out, C8.out, M8.out⟩
end
end Go.Proofs.Ytdllgmhipenidaa
