/- Package cell: Set, all ways; Open's closure. -/
import Derived.Test.YtdllgmhipenidaaCel9
namespace Go.Proofs.Ytdllgmhipenidaa
set_option maxRecDepth 100000
open Go.RowKit
set_option linter.unusedVariables false
section
variable {w : World} {base cb db : Nat} {c : PCell} {d : PD}
theorem cset_any (h : CellAt w base cb db d c) (hW : d.W.length ≤ 900) {A : Option Addr} {cc n : Nat} {s : List UInt8} (hs : Sl w A cc (bts s)) (hn : s.length = n) :
    Calls Try.prog 36 #[.pointer (some ⟨cb, 0, none⟩), .slice A n cc] w fun e w' => e = .returned (.int .i64 (c.set d s).2.2) ∧ CellAt w' base cb db (c.set d s).1 (c.set d s).2.1 ∧ CM base w w' := by
  unfold PCell.set
  by_cases h1 : 43 < s.length
  · rw [if_pos h1]
    exact (cset_big h (by omega)).mono fun e w' ⟨h1, h2⟩ => ⟨h1, by rw [← h2]; exact h, by rw [← h2]; exact CM.refl _ _⟩
  · rw [if_neg h1]
    by_cases h2 : c.err = 0
    · rw [if_neg (by simpa using h2)]
      by_cases h3 : c.great + 1 = 18446744073709551616
      · rw [if_pos h3]
        exact (cset_worn h.2 (by omega) h2 h3).mono fun e w' ⟨h1, h2⟩ => ⟨h1, h.nil h2, CM.nil h2⟩
      · rw [if_neg h3]
        have := cset_go h hW hs hn (by omega) h2 (by have := h.2.ok.great; omega)
        by_cases h4 : (c.put d (layC (c.great + 1) s)).2 = 0
        · rw [h4] at this
          rw [if_neg (by simpa using h4)]
          rw [if_neg (by simp)] at this
          exact this.mono fun e w' ⟨h1, h2, h3, h4⟩ => ⟨h1, ⟨h2, h3⟩, h4⟩
        · rw [if_pos h4]
          rw [if_pos h4] at this
          exact this.mono fun e w' ⟨h1, h2, h3, h4⟩ => ⟨h1, ⟨h2, h3⟩, h4⟩
    · rw [if_pos h2]
      exact (cset_err h.2 (by omega) rfl h2).mono fun e w' ⟨h1, h2⟩ => ⟨h1, by rw [← h2]; exact h, by rw [← h2]; exact CM.refl _ _⟩
theorem cellC_great (t : Nat) (h : c.told.length = 64) : (cellC db c).take 67 ++ bts (eight t) ++ (cellC db c).drop (67 + (bts (eight t)).length) = cellC db { c with great := t } := by
  have e1 : cellC db c = (([.pointer (some ⟨db, 0, none⟩), .int .i64 (c.at_ : Int), .int .i64 (c.spare : Int)] : List Value) ++ bts c.told) ++ (bts (eight c.great) ++ [.int .i64 c.err]) := by simp [cellC]
  have h67 : (([.pointer (some ⟨db, 0, none⟩), .int .i64 (c.at_ : Int), .int .i64 (c.spare : Int)] : List Value) ++ bts c.told).length = 67 := by simp [h]
  have h8 : (bts (eight t)).length = 8 := by simp [eight_length]
  have h8' : (bts (eight c.great)).length = 8 := by simp [eight_length]
  rw [e1, List.take_left' h67, h8, ← h67, List.drop_length_add_append, ← h8', List.drop_left' rfl]
  simp [cellC]
theorem cellC_tellb (b : List UInt8) (spare : Nat) (h : c.told.length = 64) (hb : b.length = 64) :
    ((cellC db c).take 3 ++ bts b ++ (cellC db c).drop (3 + (bts b).length)).set 2 (.int .i64 (spare : Int)) = cellC db { c with told := b, spare := spare } := by
  have hl3 : (bts c.told).length = 64 := by simp [h]
  have hb3 : (bts b).length = 64 := by simp [hb]
  have e1 : (cellC db c).take 3 ++ bts b ++ (cellC db c).drop (3 + (bts b).length) = [.pointer (some ⟨db, 0, none⟩), .int .i64 (c.at_ : Int), .int .i64 (c.spare : Int)] ++ (bts b ++ (bts (eight c.great) ++ [.int .i64 c.err])) := by
    rw [cellC_split, hb3, List.take_left' (by rfl), show 3 + 64 = ([.pointer (some ⟨db, 0, none⟩), .int .i64 (c.at_ : Int), .int .i64 (c.spare : Int)] : List Value).length + 64 by rfl, List.drop_length_add_append, ← hl3, List.drop_left' rfl, List.append_assoc]
  rw [e1]
  simp [cellC]
theorem CellIn.greatW (h : CellIn w base cb db c) {t : Nat} {W : World} (hW : w.setCells cb 67 (bts (eight t)) = W) (hok : ({ c with great := t } : PCell).Ok) : CellIn W base cb db { c with great := t } ∧ Mods (fun k => k = cb) w W := by
  subst hW
  have b1 := setCells_blk (bts (eight t)) 67 w (cellC db c) h.blk (by rw [cellC_length h.ok.len, bts_length, eight_length]; omega)
  rw [cellC_great t h.ok.len] at b1
  exact ⟨⟨b1, h.le, hok⟩, setCells_mods (bts (eight t)) 67 w⟩
theorem CellIn.toldW (h : CellIn w base cb db c) {b : List UInt8} (hb : b.length = 64) {spare : Nat} {W : World} (hW : (w.setCells cb 3 (bts b)).setCell ⟨cb, 2, none⟩ (.int .i64 (spare : Int)) = W) (hok : ({ c with told := b, spare := spare } : PCell).Ok) :
    CellIn W base cb db { c with told := b, spare := spare } ∧ Mods (fun k => k = cb) w W := by
  subst hW
  have b1 := setCells_blk (bts b) 3 w (cellC db c) h.blk (by rw [cellC_length h.ok.len, bts_length]; omega)
  have b2 := b1.set_ 2 (.int .i64 (spare : Int))
  have e : ((cellC db c).take 3 ++ bts b ++ (cellC db c).drop (3 + (bts b).length)).toArray.setIfInBounds 2 (.int .i64 (spare : Int)) = (((cellC db c).take 3 ++ bts b ++ (cellC db c).drop (3 + (bts b).length)).set 2 (.int .i64 (spare : Int))).toArray := by simp
  rw [e, cellC_tellb b spare h.ok.len hb] at b2
  exact ⟨⟨b2, h.le, hok⟩, (setCells_mods (bts b) 3 w).trans (Mods.setCell (S := fun k => k = cb) (p := ⟨cb, 2, none⟩) (Mods.refl _ _) (fun _ => rfl) _)⟩
theorem copy_all (b : List UInt8) (hb : b.length = 64) : ((bts zeros64).toArray.toList.take 0 ++ bts b ++ (bts zeros64).toArray.toList.drop (0 + 64)).toArray = (bts b).toArray := by
  congr 1
  rw [List.drop_of_length_le (by rw [List.toList_toArray, bts_length]; simp [zeros64]), List.take_zero, List.append_nil, List.nil_append]
set_option maxHeartbeats 1600000 in
theorem ctake_any (h : CellAt w base cb db d c) {g2 g3 g6 : Nat} (b2 : Blk w g2 24 #[.pointer (some ⟨db, 0, none⟩)]) (b3 : Blk w g3 3 #[.int .i64 (c.at_ : Int)]) (b6 : Blk w g6 67 #[.pointer (some ⟨cb, 0, none⟩)]) {half : Nat} (hh : half ≤ 1) (hr : d.at_ ((c.at_ : Int) + (half : Int)) = 0) :
    Calls Try.prog 89 #[.int .i64 (half : Int), .pointer (some ⟨g2, 0, none⟩), .pointer (some ⟨g3, 0, none⟩), .pointer (some ⟨g6, 0, none⟩)] w fun e w' => e = .returned (.int .i64 0) ∧ CellAt w' base cb db d (c.take half (d.read ((c.at_ : Int) + (half : Int))).1) ∧ Mods (fun k => k = cb) w w' := by
  obtain ⟨hD, hC⟩ := h
  obtain ⟨i, hi⟩ : ∃ i, (c.at_ : Int) + (half : Int) = i := ⟨_, rfl⟩
  have hwi : IntKind.i64.wrap i = i := by rw [IntKind.wrap_i64]; have := hC.ok.at_; omega
  rw [hi] at hr
  rw [hi]
  have c2 : w.cell? ⟨g2, 0, none⟩ = some (.pointer (some ⟨db, 0, none⟩)) := by simpa using b2.cell 0
  have c3 : w.cell? ⟨g3, 0, none⟩ = some (.int .i64 (c.at_ : Int)) := by simpa using b3.cell 0
  have hdok : d.Ok := by obtain ⟨_, _, _, hd⟩ := hD; exact hd.ok
  have hb64 : (d.read i).1.length = 64 := hdok.read hr
  have hre : (d.read i).2 = 0 := by unfold PD.read; rw [if_neg (by simp [hr])]
  have HR := Lib.hid (dread_any hD i)
  rw [hre] at HR
  obtain ⟨b, hb⟩ : ∃ b, (d.read i).1 = b := ⟨_, rfl⟩
  rw [hb] at HR hb64
  rw [hb]
  have HC := Lib.hid hC
  have HD := Lib.hid hD
  have G6 := Lib.hid b6
  have HB64 := Lib.hid hb64
  have HLT : Hid (cb < w.heap.size) := Lib.hid hC.blk.lt
  have hx0 := turnN_lt hb64 (k := 0) (by omega)
  have hx5 := turnN_lt hb64 (k := 56) (by omega)
  have hxt := turnN_lt hC.ok.len (k := 0) (by omega)
  have HT0 := Lib.hid (fun V => cturn_any V hb64 (k := 0) (by omega))
  have HT5 := Lib.hid (fun V => cturn_any V hb64 (k := 56) (by omega))
  have HTT := Lib.hid (fun V => cturn_any V hC.ok.len (k := 0) (by omega))
  have HRI := Lib.hid (fun V => cright_any V hb64)
  obtain ⟨x, hx⟩ : ∃ x, turnN b 0 = x := ⟨_, rfl⟩
  obtain ⟨y, hy⟩ : ∃ y, turnN b 56 = y := ⟨_, rfl⟩
  obtain ⟨z, hz⟩ : ∃ z, turnN c.told 0 = z := ⟨_, rfl⟩
  obtain ⟨r, hr2⟩ : ∃ r, rightC b = r := ⟨_, rfl⟩
  have HL1 := Lib.hid (fun V => clater_any V hx0 hx5)
  have HL2 := Lib.hid (fun V => clater_any V hC.ok.great (show max (turnN b 0) (turnN b 56) < 18446744073709551616 by omega))
  have HAB := Lib.hid (fun V => cabove_any V hx0 hxt)
  have HOK := Lib.hid (hC.ok.take (half := half) hb64)
  have HTK : Hid (c.take half b = if r = true ∧ z < x then { c with great := max c.great (max x y), told := b, spare := 1 - half } else { c with great := max c.great (max x y) }) := Lib.hid (by
    unfold PCell.take PCell.turn
    rw [hx, hy, hz, hr2])
  have hgr := hC.ok.great
  rw [hx] at HT0 HL1 HL2 HAB hx0
  rw [hy] at HT5 HL1 HL2 hx5
  rw [hz] at HTT HAB
  rw [hr2] at HRI
  obtain ⟨X, hX⟩ : ∃ X, max c.great (max x y) = X := ⟨_, rfl⟩
  have hGOK : ({ c with great := X } : PCell).Ok := ⟨hC.ok.at_, hC.ok.spare, hC.ok.len, hC.ok.size, by show X < _; omega, by show c.turn ≤ X; have := hC.ok.turn; omega, hC.ok.err⟩
  have HGOK := Lib.hid hGOK
  rw [hX] at HL2 HTK
  have HTL := Lib.hid (infoCBl hC.ok.len)
  have hhI : (half : Int) ≤ 1 := by omega
  have hwh : IntKind.i64.wrap (1 - (half : Int)) = 1 - (half : Int) := by rw [IntKind.wrap_i64]; omega
  have HH : Hid (((1 - half : Nat) : Int) = 1 - (half : Int)) := Lib.hid (by omega)
  obtain ⟨td, htd⟩ : ∃ td, c.told = td := ⟨_, rfl⟩
  have HTD : Hid (c.told = td) := Lib.hid htd
  rw [htd] at HTT HTL
  clear hC hD b2 b3 b6 hre hb hdok hx hy hz hr2 hxt hx0 hx5 hgr hX hGOK hb64 hr htd
  cases r with
  | false =>
    have hzx : ¬ (false = true ∧ z < x) := by simp
    go_enter Try.func89, Try.ntmps89
    go_wp2_with (first
      | (refine wpList_copy_mk rfl (.tmp 20) (.tmp 21) 42 42 rfl 5 Try.underlying42 infoCU W1.heap.size 0 64 64 142 (bts zeros64).toArray (bts b).toArray rfl B2.out A1 64 c1 (bts b) rfl S2.out (by rw [bts_length]; exact HB64.out) (bts_one _) (by omega) (by rw [btsA_size]; simp [zeros64]) (copy_all b HB64.out) ?_; intro W3 b9 m9; have B3 := Lib.hid b9; have M3 := Lib.hid (M2.out.nil_trans m9 (fun i hi => by have := S1z.out; omega)); clear b9 m9)
      | (refine gw_alloc_of run_alloc_cb rfl rfl ?_; intro W2 b9 m9 s9; have B2 := Lib.hid b9; have S2 := Lib.hid (S1.out.mods m9 (fun _ _ h => h)); have M2 := Lib.hid (M1.out.trans m9); have S1z : Hid (w.heap.size ≤ W1.heap.size) := Lib.hid M1.out.size; clear b9 m9 s9)
      | (go_at_call 87; refine HR.out.mono ?_; rintro e W1 ⟨A1, c1, m1, rfl, l1, s1, m9⟩; obtain rfl : 64 = m1 := (HB64.out.symm.trans l1); have S1 := Lib.hid s1; have M1 := Lib.hid m9; clear s1 m9 l1))
    have K6 : ∀ V, Mods Nil W3 V → V.cell? ⟨g6, 0, none⟩ = some (.pointer (some ⟨cb, 0, none⟩)) := fun V hm => by simpa using ((G6.out.mods M3.out (fun h => h)).mods hm (fun h => h)).cell 0
    have RG : Hid (∀ V, Mods Nil W3 V → V.rangeAt cb 67 (bts (eight c.great))) := Lib.hid (fun V hm => ((HC.out.nil M3.out).nil hm).great)
    have RB : Hid (∀ V, Mods Nil W3 V → V.rangeAt W1.heap.size 0 (bts b)) := Lib.hid (fun V hm => blkL_range (B3.out.mods hm (fun h => h)))
    have Q0 := Lib.hid (gq_of (W := W3) (fun V => HT0.out V))
    have Q5 := Lib.hid (gq_of (W := W3) (fun V => HT5.out V))
    have Q1 := Lib.hid (gq_of (W := W3) (fun V => HL1.out V))
    have Q2 := Lib.hid (gq_of (W := W3) (fun V => HL2.out V))
    refine qt_region 14 (by kernel_rfl) rfl ?_
    refine qt_quiet (fun V => Mods Nil W3 V) 0 13 1 (by kernel_rfl) ((Mods.refl Nil W3).drew) ?_
    simp only [List.drop_zero, List.take_succ_cons, List.take_zero, Act.put, List.setIfInBounds_toArray, List.set_cons_zero, List.set_cons_succ, goInt]
    repeat (first
      | go_big_quiet_skip
      | (go_big_quiet_want; first
          | (refine gq_load_row 144 _ rfl cb 67 rfl (bts (eight c.great)) _ RG.out Try.underlying144 rfl (infoCTl c.great) ?_; go_big_quiet_on)
          | (refine gq_load_row 142 _ rfl W1.heap.size 0 rfl (bts b) _ RB.out Try.underlying142 rfl (infoCBl HB64.out) ?_; go_big_quiet_on)
          | (refine gq_call Q0.out ?_ ?_; (focus (intro V; go_simp; done)); go_big_quiet_on)
          | (refine gq_call Q5.out ?_ ?_; (focus (intro V; go_simp; done)); go_big_quiet_on)
          | (refine gq_call Q2.out ?_ ?_; (focus (intro V; go_simp; done)); go_big_quiet_on)
          | (refine gq_call Q1.out ?_ ?_; (focus (intro V; go_simp; done)); go_big_quiet_on)
          | (refine gq_op (v := ?_) ?_ ?_; rotate_left; (focus (intro V hV; go_simp; try with_reducible rfl)); go_big_quiet_on))
        simp only [Act.put, List.setIfInBounds_toArray, List.set_cons_zero, List.set_cons_succ])
    refine wpQuiet_nil ?_
    intro V hV
    have C3 := Lib.hid ((HC.out.nil M3.out).nil hV)
    have D3 := Lib.hid ((HD.out.nil M3.out).nil hV)
    have B3V := Lib.hid (B3.out.mods hV (fun h => h))
    have G63 := Lib.hid ((G6.out.mods M3.out (fun h => h)).mods hV (fun h => h))
    have M3V := Lib.hid (M3.out.trans hV)
    obtain ⟨V4, hV4⟩ : ∃ W, V.setCells cb 67 (bts (eight X)) = W := ⟨_, rfl⟩
    have q4 := C3.out.greatW hV4 HGOK.out
    have C4 := Lib.hid q4.1
    have D4 := Lib.hid (D3.out.cellSet C3.out q4.2)
    have B4 := Lib.hid (B3V.out.mods q4.2 (B3V.out.ne_ C3.out.blk (by decide)))
    have G64 := Lib.hid (G63.out.mods q4.2 (G63.out.ne_ C3.out.blk (by decide)))
    have M4 : Hid (Mods (fun k => k = cb) w V4) := Lib.hid ((M3V.out.mono (fun _ _ h => h.elim)).trans q4.2)
    have TH4 : Hid (V.there cb 67 (bts (eight X)).toArray.size) := Lib.hid (by rw [btsA_size]; exact blk_there C3.out.blk (by rw [List.size_toArray, cellC_length C3.out.ok.len, eight_length]; omega))
    clear q4 K6 RG RB Q0 Q5 Q1 Q2 hV
    refine qt_list 13 1 rfl (by kernel_rfl) ?_
    simp only [List.drop_succ_cons, List.drop_zero]
    refine wpList_store_mid rfl 144 (.tmp 35) (.tmp 33) rfl cb 67 (bts (eight X)).toArray rfl rfl TH4.out (infoCTa X) (btsA_all _) ?_
    rw [List.toList_toArray, hV4]
    simp only [Act.put]
    go_wp2_with fail
    have K6 : ∀ V, Mods Nil V4 V → V.cell? ⟨g6, 0, none⟩ = some (.pointer (some ⟨cb, 0, none⟩)) := fun V hm => by simpa using (G64.out.mods hm (fun h => h)).cell 0
    have RT : Hid (∀ V, Mods Nil V4 V → V.rangeAt cb 3 (bts td)) := Lib.hid (fun V hm => by rw [← HTD.out]; exact (C4.out.nil hm).told)
    have RB : Hid (∀ V, Mods Nil V4 V → V.rangeAt W1.heap.size 0 (bts b)) := Lib.hid (fun V hm => blkL_range (B4.out.mods hm (fun h => h)))
    have Q0 := Lib.hid (gq_of (W := V4) (fun V => HT0.out V))
    have QT := Lib.hid (gq_of (W := V4) (fun V => HTT.out V))
    have QR := Lib.hid (gq_of (W := V4) (fun V => HRI.out V))
    have QA := Lib.hid (gq_of (W := V4) (fun V => HAB.out V))
    refine gq_region (by kernel_rfl) (by kernel_rfl) ?_
    repeat (first
      | go_big_quiet_skip
      | (go_big_quiet_want; first
          | (refine gq_load_row 142 _ rfl cb 3 rfl (bts td) _ RT.out Try.underlying142 rfl HTL.out ?_; go_big_quiet_on)
          | (refine gq_load_row 142 _ rfl W1.heap.size 0 rfl (bts b) _ RB.out Try.underlying142 rfl (infoCBl HB64.out) ?_; go_big_quiet_on)
          | (refine gq_call QR.out ?_ ?_; (focus (intro V; go_simp; done)); go_big_quiet_on)
          | (refine gq_call Q0.out ?_ ?_; (focus (intro V; go_simp; done)); go_big_quiet_on)
          | (refine gq_call QT.out ?_ ?_; (focus (intro V; go_simp; done)); go_big_quiet_on)
          | (refine gq_call QA.out ?_ ?_; (focus (intro V; go_simp; done)); go_big_quiet_on)
          | (refine gq_op (v := ?_) ?_ ?_; rotate_left; (focus (intro V hV; go_simp; try with_reducible rfl)); go_big_quiet_on))
        simp only [Act.put, List.setIfInBounds_toArray, List.set_cons_zero, List.set_cons_succ])
    refine wpQuiet_nil ?_
    intro V5 hV5
    have C5 := Lib.hid (C4.out.nil hV5)
    have D5 := Lib.hid (D4.out.nil hV5)
    have B5 := Lib.hid (B4.out.mods hV5 (fun h => h))
    have G65 := Lib.hid (G64.out.mods hV5 (fun h => h))
    have M5 : Hid (Mods (fun k => k = cb) w V5) := Lib.hid (M4.out.trans (hV5.mono (fun _ _ h => h.elim)))
    clear K6 RT RB Q0 QT QR QA hV5
    go_wp2_with fail
    go_ret
    exact ⟨rfl, ⟨D5.out, by rw [HTK.out, if_neg (by simp)]; exact C5.out⟩, M5.out⟩
  | true =>
    by_cases hlt : z < x
    · rw [decide_eq_true hlt] at HAB
      have hzx : (true = true ∧ z < x) := ⟨rfl, hlt⟩
      go_enter Try.func89, Try.ntmps89
      go_wp2_with (first
        | (refine wpList_copy_mk rfl (.tmp 20) (.tmp 21) 42 42 rfl 5 Try.underlying42 infoCU W1.heap.size 0 64 64 142 (bts zeros64).toArray (bts b).toArray rfl B2.out A1 64 c1 (bts b) rfl S2.out (by rw [bts_length]; exact HB64.out) (bts_one _) (by omega) (by rw [btsA_size]; simp [zeros64]) (copy_all b HB64.out) ?_; intro W3 b9 m9; have B3 := Lib.hid b9; have M3 := Lib.hid (M2.out.nil_trans m9 (fun i hi => by have := S1z.out; omega)); clear b9 m9)
        | (refine gw_alloc_of run_alloc_cb rfl rfl ?_; intro W2 b9 m9 s9; have B2 := Lib.hid b9; have S2 := Lib.hid (S1.out.mods m9 (fun _ _ h => h)); have M2 := Lib.hid (M1.out.trans m9); have S1z : Hid (w.heap.size ≤ W1.heap.size) := Lib.hid M1.out.size; clear b9 m9 s9)
        | (go_at_call 87; refine HR.out.mono ?_; rintro e W1 ⟨A1, c1, m1, rfl, l1, s1, m9⟩; obtain rfl : 64 = m1 := (HB64.out.symm.trans l1); have S1 := Lib.hid s1; have M1 := Lib.hid m9; clear s1 m9 l1))
      have K6 : ∀ V, Mods Nil W3 V → V.cell? ⟨g6, 0, none⟩ = some (.pointer (some ⟨cb, 0, none⟩)) := fun V hm => by simpa using ((G6.out.mods M3.out (fun h => h)).mods hm (fun h => h)).cell 0
      have RG : Hid (∀ V, Mods Nil W3 V → V.rangeAt cb 67 (bts (eight c.great))) := Lib.hid (fun V hm => ((HC.out.nil M3.out).nil hm).great)
      have RB : Hid (∀ V, Mods Nil W3 V → V.rangeAt W1.heap.size 0 (bts b)) := Lib.hid (fun V hm => blkL_range (B3.out.mods hm (fun h => h)))
      have Q0 := Lib.hid (gq_of (W := W3) (fun V => HT0.out V))
      have Q5 := Lib.hid (gq_of (W := W3) (fun V => HT5.out V))
      have Q1 := Lib.hid (gq_of (W := W3) (fun V => HL1.out V))
      have Q2 := Lib.hid (gq_of (W := W3) (fun V => HL2.out V))
      refine qt_region 14 (by kernel_rfl) rfl ?_
      refine qt_quiet (fun V => Mods Nil W3 V) 0 13 1 (by kernel_rfl) ((Mods.refl Nil W3).drew) ?_
      simp only [List.drop_zero, List.take_succ_cons, List.take_zero, Act.put, List.setIfInBounds_toArray, List.set_cons_zero, List.set_cons_succ, goInt]
      repeat (first
        | go_big_quiet_skip
        | (go_big_quiet_want; first
            | (refine gq_load_row 144 _ rfl cb 67 rfl (bts (eight c.great)) _ RG.out Try.underlying144 rfl (infoCTl c.great) ?_; go_big_quiet_on)
            | (refine gq_load_row 142 _ rfl W1.heap.size 0 rfl (bts b) _ RB.out Try.underlying142 rfl (infoCBl HB64.out) ?_; go_big_quiet_on)
            | (refine gq_call Q0.out ?_ ?_; (focus (intro V; go_simp; done)); go_big_quiet_on)
            | (refine gq_call Q5.out ?_ ?_; (focus (intro V; go_simp; done)); go_big_quiet_on)
            | (refine gq_call Q2.out ?_ ?_; (focus (intro V; go_simp; done)); go_big_quiet_on)
            | (refine gq_call Q1.out ?_ ?_; (focus (intro V; go_simp; done)); go_big_quiet_on)
            | (refine gq_op (v := ?_) ?_ ?_; rotate_left; (focus (intro V hV; go_simp; try with_reducible rfl)); go_big_quiet_on))
          simp only [Act.put, List.setIfInBounds_toArray, List.set_cons_zero, List.set_cons_succ])
      refine wpQuiet_nil ?_
      intro V hV
      have C3 := Lib.hid ((HC.out.nil M3.out).nil hV)
      have D3 := Lib.hid ((HD.out.nil M3.out).nil hV)
      have B3V := Lib.hid (B3.out.mods hV (fun h => h))
      have G63 := Lib.hid ((G6.out.mods M3.out (fun h => h)).mods hV (fun h => h))
      have M3V := Lib.hid (M3.out.trans hV)
      obtain ⟨V4, hV4⟩ : ∃ W, V.setCells cb 67 (bts (eight X)) = W := ⟨_, rfl⟩
      have q4 := C3.out.greatW hV4 HGOK.out
      have C4 := Lib.hid q4.1
      have D4 := Lib.hid (D3.out.cellSet C3.out q4.2)
      have B4 := Lib.hid (B3V.out.mods q4.2 (B3V.out.ne_ C3.out.blk (by decide)))
      have G64 := Lib.hid (G63.out.mods q4.2 (G63.out.ne_ C3.out.blk (by decide)))
      have M4 : Hid (Mods (fun k => k = cb) w V4) := Lib.hid ((M3V.out.mono (fun _ _ h => h.elim)).trans q4.2)
      have TH4 : Hid (V.there cb 67 (bts (eight X)).toArray.size) := Lib.hid (by rw [btsA_size]; exact blk_there C3.out.blk (by rw [List.size_toArray, cellC_length C3.out.ok.len, eight_length]; omega))
      clear q4 K6 RG RB Q0 Q5 Q1 Q2 hV
      refine qt_list 13 1 rfl (by kernel_rfl) ?_
      simp only [List.drop_succ_cons, List.drop_zero]
      refine wpList_store_mid rfl 144 (.tmp 35) (.tmp 33) rfl cb 67 (bts (eight X)).toArray rfl rfl TH4.out (infoCTa X) (btsA_all _) ?_
      rw [List.toList_toArray, hV4]
      simp only [Act.put]
      go_wp2_with fail
      have K6 : ∀ V, Mods Nil V4 V → V.cell? ⟨g6, 0, none⟩ = some (.pointer (some ⟨cb, 0, none⟩)) := fun V hm => by simpa using (G64.out.mods hm (fun h => h)).cell 0
      have RT : Hid (∀ V, Mods Nil V4 V → V.rangeAt cb 3 (bts td)) := Lib.hid (fun V hm => by rw [← HTD.out]; exact (C4.out.nil hm).told)
      have RB : Hid (∀ V, Mods Nil V4 V → V.rangeAt W1.heap.size 0 (bts b)) := Lib.hid (fun V hm => blkL_range (B4.out.mods hm (fun h => h)))
      have Q0 := Lib.hid (gq_of (W := V4) (fun V => HT0.out V))
      have QT := Lib.hid (gq_of (W := V4) (fun V => HTT.out V))
      have QR := Lib.hid (gq_of (W := V4) (fun V => HRI.out V))
      have QA := Lib.hid (gq_of (W := V4) (fun V => HAB.out V))
      refine gq_region (by kernel_rfl) (by kernel_rfl) ?_
      repeat (first
        | go_big_quiet_skip
        | (go_big_quiet_want; first
            | (refine gq_load_row 142 _ rfl cb 3 rfl (bts td) _ RT.out Try.underlying142 rfl HTL.out ?_; go_big_quiet_on)
            | (refine gq_load_row 142 _ rfl W1.heap.size 0 rfl (bts b) _ RB.out Try.underlying142 rfl (infoCBl HB64.out) ?_; go_big_quiet_on)
            | (refine gq_call QR.out ?_ ?_; (focus (intro V; go_simp; done)); go_big_quiet_on)
            | (refine gq_call Q0.out ?_ ?_; (focus (intro V; go_simp; done)); go_big_quiet_on)
            | (refine gq_call QT.out ?_ ?_; (focus (intro V; go_simp; done)); go_big_quiet_on)
            | (refine gq_call QA.out ?_ ?_; (focus (intro V; go_simp; done)); go_big_quiet_on)
            | (refine gq_op (v := ?_) ?_ ?_; rotate_left; (focus (intro V hV; go_simp; try with_reducible rfl)); go_big_quiet_on))
          simp only [Act.put, List.setIfInBounds_toArray, List.set_cons_zero, List.set_cons_succ])
      refine wpQuiet_nil ?_
      intro V5 hV5
      have C5 := Lib.hid (C4.out.nil hV5)
      have D5 := Lib.hid (D4.out.nil hV5)
      have B5 := Lib.hid (B4.out.mods hV5 (fun h => h))
      have G65 := Lib.hid (G64.out.mods hV5 (fun h => h))
      have M5 : Hid (Mods (fun k => k = cb) w V5) := Lib.hid (M4.out.trans (hV5.mono (fun _ _ h => h.elim)))
      clear K6 RT RB Q0 QT QR QA hV5
      go_wp2_with fail
      have NB : Hid (W1.heap.size ≠ cb) := Lib.hid (B5.out.ne_ C5.out.blk (by decide))
      have NG : Hid (g6 ≠ cb) := Lib.hid (G65.out.ne_ C5.out.blk (by decide))
      obtain ⟨V6, hV6⟩ : ∃ W, (V5.drew).setCells cb 3 (bts b) = W := ⟨_, rfl⟩
      obtain ⟨V7, hV7⟩ : ∃ W, V6.setCell ⟨cb, 2, none⟩ (.int .i64 (1 - (half : Int))) = W := ⟨_, rfl⟩
      have BLK1 := setCells_blk (bts b) 3 V5.drew _ C5.out.blk.drew (by rw [cellC_length C5.out.ok.len, bts_length, HB64.out]; omega)
      rw [hV6] at BLK1
      have hz6 : ((cellC db { c with great := X }).take 3 ++ bts b ++ (cellC db { c with great := X }).drop (3 + (bts b).length)).length = 76 := by rw [splice_length (by rw [cellC_length C5.out.ok.len, bts_length, HB64.out]; omega), cellC_length C5.out.ok.len]
      have RUN7 : Hid ((storeVar 3 ⟨cb, 2, none⟩ (.int .i64 (1 - (half : Int)))).run Try.prog V6 = .ok () V7) := by
        rw [← hV7]
        exact Lib.hid (run_store_int V6 (1 - (half : Int)) (BLK1.frozen 2) (by rw [BLK1.cell, Array.getElem?_eq_getElem (by rw [List.size_toArray, hz6]; omega)]; rfl))
      have TH5 : Hid ((V5.drew).there cb 3 (bts b).toArray.size) := Lib.hid (by rw [btsA_size, HB64.out]; exact (World.there_drew _ _ _ _).2 (blk_there C5.out.blk (by rw [List.size_toArray, cellC_length C5.out.ok.len]; omega)))
      have hS0 : Hid ((fun V => V.rangeAt W1.heap.size 0 (bts b) ∧ V.cell? ⟨g6, 0, none⟩ = some (.pointer (some ⟨cb, 0, none⟩)) ∧ V.there cb 3 64) V5.drew) := Lib.hid ⟨blkL_range B5.out.drew, by simpa using G65.out.drew.cell 0, (World.there_drew _ _ _ _).2 (blk_there C5.out.blk (by rw [List.size_toArray, cellC_length C5.out.ok.len]; omega))⟩
      have K1 : Mods (fun i => i = cb) V5.drew V6 := by rw [← hV6]; exact setCells_mods (bts b) 3 V5.drew
      have hS6 : Hid ((fun V => V.rangeAt W1.heap.size 0 (bts b) ∧ V.cell? ⟨g6, 0, none⟩ = some (.pointer (some ⟨cb, 0, none⟩)) ∧ V.there cb 3 64) V6) := Lib.hid ⟨blkL_range (B5.out.drew.mods K1 NB.out), by simpa using (G65.out.drew.mods K1 NG.out).cell 0, blk_there BLK1 (by rw [List.size_toArray, hz6]; omega)⟩
      have TW := CellIn.toldW (W := V7) (C5.out.nil (Mods.refl Nil V5).drew) HB64.out (spare := 1 - half) (by rw [hV6, HH.out, hV7]) (by have := HOK.out; rw [HTK.out, if_pos (by simpa using hzx)] at this; exact this)
      have hS7 : Hid ((fun V => V.rangeAt W1.heap.size 0 (bts b) ∧ V.cell? ⟨g6, 0, none⟩ = some (.pointer (some ⟨cb, 0, none⟩)) ∧ V.there cb 3 64) V7) := Lib.hid ⟨blkL_range (B5.out.drew.mods TW.2 NB.out), by simpa using (G65.out.drew.mods TW.2 NG.out).cell 0, blk_there TW.1.blk (by rw [List.size_toArray, cellC_length TW.1.ok.len]; omega)⟩
      have FIN : Hid (CellAt V7 base cb db d (c.take half b) ∧ Mods (fun k => k = cb) w V7) := Lib.hid (by
        rw [HTK.out, if_pos (by simpa using hzx)]
        exact ⟨⟨(D5.out.nil (Mods.refl Nil V5).drew).cellSet (C5.out.nil (Mods.refl Nil V5).drew) TW.2, TW.1⟩, M5.out.drew.trans TW.2⟩)
      clear K1 BLK1 TW hz6
      refine wp_region_held_drew (S := (fun V => V.rangeAt W1.heap.size 0 (bts b) ∧ V.cell? ⟨g6, 0, none⟩ = some (.pointer (some ⟨cb, 0, none⟩)) ∧ V.there cb 3 64)) (by kernel_rfl) hS0.out (fun hS => ?_)
      refine takeL (i := 0) (v := ?_) rfl (by kernel_rfl) (by kernel_rfl) (by kernel_rfl) (fun _ _ _ h => h) (Or.inl ⟨by rfl, ?_⟩) hS ?_
      rotate_left
      · intro V hV
        (try dsimp only at hV)
        go_split_ands
        go_simp
        try with_reducible rfl
      simp only [Act.put, List.setIfInBounds_toArray, List.set_cons_zero, List.set_cons_succ]
      refine takeL (i := 1) (v := ?_) rfl (by kernel_rfl) (by kernel_rfl) (by kernel_rfl) (fun _ _ _ h => h) (Or.inl ⟨by rfl, ?_⟩) hS ?_
      rotate_left
      · intro V hV
        (try dsimp only at hV)
        go_split_ands
        go_simp
        try with_reducible rfl
      simp only [Act.put, List.setIfInBounds_toArray, List.set_cons_zero, List.set_cons_succ]
      refine takeL (i := 2) rfl (by kernel_rfl) (by kernel_rfl) (by kernel_rfl) (fun _ _ _ h => h) (yieldsIf_load_mid (by rfl) 142 _ rfl W1.heap.size 0 rfl (bts b) _ (fun V hV => hV.1) Try.underlying142 rfl (infoCBl HB64.out)) hS ?_
      simp only [Act.put, List.setIfInBounds_toArray, List.set_cons_zero, List.set_cons_succ]
      refine takeL (i := 3) (v := ?_) rfl (by kernel_rfl) (by kernel_rfl) (by kernel_rfl) (fun _ _ _ h => h) (Or.inl ⟨by rfl, ?_⟩) hS ?_
      rotate_left
      · intro V hV
        (try dsimp only at hV)
        go_split_ands
        go_simp
        try with_reducible rfl
      simp only [Act.put, List.setIfInBounds_toArray, List.set_cons_zero, List.set_cons_succ]
      refine takeL (i := 4) (v := ?_) rfl (by kernel_rfl) (by kernel_rfl) (by kernel_rfl) (fun _ _ _ h => h) (Or.inl ⟨by rfl, ?_⟩) hS ?_
      rotate_left
      · intro V hV
        (try dsimp only at hV)
        go_split_ands
        go_simp
        try with_reducible rfl
      simp only [Act.put, List.setIfInBounds_toArray, List.set_cons_zero, List.set_cons_succ]
      refine takeL (i := 5) (v := ?_) rfl (by kernel_rfl) (by kernel_rfl) (by kernel_rfl) (fun _ _ _ h => h) (Or.inl ⟨by rfl, ?_⟩) hS ?_
      rotate_left
      · intro V hV
        (try dsimp only at hV)
        go_split_ands
        go_simp
        try with_reducible rfl
      simp only [Act.put, List.setIfInBounds_toArray, List.set_cons_zero, List.set_cons_succ]
      refine takeL (i := 6) (v := ?_) rfl (by kernel_rfl) (by kernel_rfl) (by kernel_rfl) (fun _ _ _ h => h) (Or.inl ⟨by rfl, ?_⟩) hS ?_
      rotate_left
      · intro V hV
        (try dsimp only at hV)
        go_split_ands
        go_simp
        try with_reducible rfl
      simp only [Act.put, List.setIfInBounds_toArray, List.set_cons_zero, List.set_cons_succ]
      refine wpAnyH_ready (rs := [7]) (by kernel_rfl) (by simp) (readyL rfl ?_ AllReadyH.nil)
      intro K' hK
      rw [if_pos (by rfl)]
      refine wp_store_mid 142 (.tmp 54) (.tmp 50) rfl cb 3 (bts b).toArray rfl rfl TH5.out (infoCBa HB64.out) (btsA_all b) ?_
      rw [List.toList_toArray, hV6]
      refine hK.out _ _ hS6.out (fun hS => ?_)
      clear hK K'
      simp only [Act.put]
      refine takeL (i := 8) (v := ?_) rfl (by kernel_rfl) (by kernel_rfl) (by kernel_rfl) (fun _ _ _ h => h) (Or.inl ⟨by rfl, ?_⟩) hS ?_
      rotate_left
      · intro V hV
        (try dsimp only at hV)
        go_split_ands
        go_simp
        try with_reducible rfl
      simp only [Act.put, List.setIfInBounds_toArray, List.set_cons_zero, List.set_cons_succ]
      refine takeL (i := 9) (v := ?_) rfl (by kernel_rfl) (by kernel_rfl) (by kernel_rfl) (fun _ _ _ h => h) (Or.inl ⟨by rfl, ?_⟩) hS ?_
      rotate_left
      · intro V hV
        (try dsimp only at hV)
        go_split_ands
        go_simp
        try with_reducible rfl
      simp only [Act.put, List.setIfInBounds_toArray, List.set_cons_zero, List.set_cons_succ]
      refine wpAnyH_ready (rs := [10]) (by kernel_rfl) (by simp) (readyL rfl ?_ AllReadyH.nil)
      intro K' hK
      rw [if_pos (by rfl)]
      refine cw_wp_store rfl 3 (.tmp 56) (.tmp 52) rfl rfl ⟨cb, 2, none⟩ rfl (.int .i64 (1 - (half : Int))) rfl RUN7.out ?_
      refine hK.out _ _ hS7.out (fun hS => ?_)
      clear hK K'
      refine wpAnyH_done (by kernel_rfl) ?_ _
      go_wp2_with fail
      go_ret
      exact ⟨rfl, FIN.out⟩
    · rw [decide_eq_false hlt] at HAB
      have hzx : ¬ (true = true ∧ z < x) := by simpa using hlt
      go_enter Try.func89, Try.ntmps89
      go_wp2_with (first
        | (refine wpList_copy_mk rfl (.tmp 20) (.tmp 21) 42 42 rfl 5 Try.underlying42 infoCU W1.heap.size 0 64 64 142 (bts zeros64).toArray (bts b).toArray rfl B2.out A1 64 c1 (bts b) rfl S2.out (by rw [bts_length]; exact HB64.out) (bts_one _) (by omega) (by rw [btsA_size]; simp [zeros64]) (copy_all b HB64.out) ?_; intro W3 b9 m9; have B3 := Lib.hid b9; have M3 := Lib.hid (M2.out.nil_trans m9 (fun i hi => by have := S1z.out; omega)); clear b9 m9)
        | (refine gw_alloc_of run_alloc_cb rfl rfl ?_; intro W2 b9 m9 s9; have B2 := Lib.hid b9; have S2 := Lib.hid (S1.out.mods m9 (fun _ _ h => h)); have M2 := Lib.hid (M1.out.trans m9); have S1z : Hid (w.heap.size ≤ W1.heap.size) := Lib.hid M1.out.size; clear b9 m9 s9)
        | (go_at_call 87; refine HR.out.mono ?_; rintro e W1 ⟨A1, c1, m1, rfl, l1, s1, m9⟩; obtain rfl : 64 = m1 := (HB64.out.symm.trans l1); have S1 := Lib.hid s1; have M1 := Lib.hid m9; clear s1 m9 l1))
      have K6 : ∀ V, Mods Nil W3 V → V.cell? ⟨g6, 0, none⟩ = some (.pointer (some ⟨cb, 0, none⟩)) := fun V hm => by simpa using ((G6.out.mods M3.out (fun h => h)).mods hm (fun h => h)).cell 0
      have RG : Hid (∀ V, Mods Nil W3 V → V.rangeAt cb 67 (bts (eight c.great))) := Lib.hid (fun V hm => ((HC.out.nil M3.out).nil hm).great)
      have RB : Hid (∀ V, Mods Nil W3 V → V.rangeAt W1.heap.size 0 (bts b)) := Lib.hid (fun V hm => blkL_range (B3.out.mods hm (fun h => h)))
      have Q0 := Lib.hid (gq_of (W := W3) (fun V => HT0.out V))
      have Q5 := Lib.hid (gq_of (W := W3) (fun V => HT5.out V))
      have Q1 := Lib.hid (gq_of (W := W3) (fun V => HL1.out V))
      have Q2 := Lib.hid (gq_of (W := W3) (fun V => HL2.out V))
      refine qt_region 14 (by kernel_rfl) rfl ?_
      refine qt_quiet (fun V => Mods Nil W3 V) 0 13 1 (by kernel_rfl) ((Mods.refl Nil W3).drew) ?_
      simp only [List.drop_zero, List.take_succ_cons, List.take_zero, Act.put, List.setIfInBounds_toArray, List.set_cons_zero, List.set_cons_succ, goInt]
      repeat (first
        | go_big_quiet_skip
        | (go_big_quiet_want; first
            | (refine gq_load_row 144 _ rfl cb 67 rfl (bts (eight c.great)) _ RG.out Try.underlying144 rfl (infoCTl c.great) ?_; go_big_quiet_on)
            | (refine gq_load_row 142 _ rfl W1.heap.size 0 rfl (bts b) _ RB.out Try.underlying142 rfl (infoCBl HB64.out) ?_; go_big_quiet_on)
            | (refine gq_call Q0.out ?_ ?_; (focus (intro V; go_simp; done)); go_big_quiet_on)
            | (refine gq_call Q5.out ?_ ?_; (focus (intro V; go_simp; done)); go_big_quiet_on)
            | (refine gq_call Q2.out ?_ ?_; (focus (intro V; go_simp; done)); go_big_quiet_on)
            | (refine gq_call Q1.out ?_ ?_; (focus (intro V; go_simp; done)); go_big_quiet_on)
            | (refine gq_op (v := ?_) ?_ ?_; rotate_left; (focus (intro V hV; go_simp; try with_reducible rfl)); go_big_quiet_on))
          simp only [Act.put, List.setIfInBounds_toArray, List.set_cons_zero, List.set_cons_succ])
      refine wpQuiet_nil ?_
      intro V hV
      have C3 := Lib.hid ((HC.out.nil M3.out).nil hV)
      have D3 := Lib.hid ((HD.out.nil M3.out).nil hV)
      have B3V := Lib.hid (B3.out.mods hV (fun h => h))
      have G63 := Lib.hid ((G6.out.mods M3.out (fun h => h)).mods hV (fun h => h))
      have M3V := Lib.hid (M3.out.trans hV)
      obtain ⟨V4, hV4⟩ : ∃ W, V.setCells cb 67 (bts (eight X)) = W := ⟨_, rfl⟩
      have q4 := C3.out.greatW hV4 HGOK.out
      have C4 := Lib.hid q4.1
      have D4 := Lib.hid (D3.out.cellSet C3.out q4.2)
      have B4 := Lib.hid (B3V.out.mods q4.2 (B3V.out.ne_ C3.out.blk (by decide)))
      have G64 := Lib.hid (G63.out.mods q4.2 (G63.out.ne_ C3.out.blk (by decide)))
      have M4 : Hid (Mods (fun k => k = cb) w V4) := Lib.hid ((M3V.out.mono (fun _ _ h => h.elim)).trans q4.2)
      have TH4 : Hid (V.there cb 67 (bts (eight X)).toArray.size) := Lib.hid (by rw [btsA_size]; exact blk_there C3.out.blk (by rw [List.size_toArray, cellC_length C3.out.ok.len, eight_length]; omega))
      clear q4 K6 RG RB Q0 Q5 Q1 Q2 hV
      refine qt_list 13 1 rfl (by kernel_rfl) ?_
      simp only [List.drop_succ_cons, List.drop_zero]
      refine wpList_store_mid rfl 144 (.tmp 35) (.tmp 33) rfl cb 67 (bts (eight X)).toArray rfl rfl TH4.out (infoCTa X) (btsA_all _) ?_
      rw [List.toList_toArray, hV4]
      simp only [Act.put]
      go_wp2_with fail
      have K6 : ∀ V, Mods Nil V4 V → V.cell? ⟨g6, 0, none⟩ = some (.pointer (some ⟨cb, 0, none⟩)) := fun V hm => by simpa using (G64.out.mods hm (fun h => h)).cell 0
      have RT : Hid (∀ V, Mods Nil V4 V → V.rangeAt cb 3 (bts td)) := Lib.hid (fun V hm => by rw [← HTD.out]; exact (C4.out.nil hm).told)
      have RB : Hid (∀ V, Mods Nil V4 V → V.rangeAt W1.heap.size 0 (bts b)) := Lib.hid (fun V hm => blkL_range (B4.out.mods hm (fun h => h)))
      have Q0 := Lib.hid (gq_of (W := V4) (fun V => HT0.out V))
      have QT := Lib.hid (gq_of (W := V4) (fun V => HTT.out V))
      have QR := Lib.hid (gq_of (W := V4) (fun V => HRI.out V))
      have QA := Lib.hid (gq_of (W := V4) (fun V => HAB.out V))
      refine gq_region (by kernel_rfl) (by kernel_rfl) ?_
      repeat (first
        | go_big_quiet_skip
        | (go_big_quiet_want; first
            | (refine gq_load_row 142 _ rfl cb 3 rfl (bts td) _ RT.out Try.underlying142 rfl HTL.out ?_; go_big_quiet_on)
            | (refine gq_load_row 142 _ rfl W1.heap.size 0 rfl (bts b) _ RB.out Try.underlying142 rfl (infoCBl HB64.out) ?_; go_big_quiet_on)
            | (refine gq_call QR.out ?_ ?_; (focus (intro V; go_simp; done)); go_big_quiet_on)
            | (refine gq_call Q0.out ?_ ?_; (focus (intro V; go_simp; done)); go_big_quiet_on)
            | (refine gq_call QT.out ?_ ?_; (focus (intro V; go_simp; done)); go_big_quiet_on)
            | (refine gq_call QA.out ?_ ?_; (focus (intro V; go_simp; done)); go_big_quiet_on)
            | (refine gq_op (v := ?_) ?_ ?_; rotate_left; (focus (intro V hV; go_simp; try with_reducible rfl)); go_big_quiet_on))
          simp only [Act.put, List.setIfInBounds_toArray, List.set_cons_zero, List.set_cons_succ])
      refine wpQuiet_nil ?_
      intro V5 hV5
      have C5 := Lib.hid (C4.out.nil hV5)
      have D5 := Lib.hid (D4.out.nil hV5)
      have B5 := Lib.hid (B4.out.mods hV5 (fun h => h))
      have G65 := Lib.hid (G64.out.mods hV5 (fun h => h))
      have M5 : Hid (Mods (fun k => k = cb) w V5) := Lib.hid (M4.out.trans (hV5.mono (fun _ _ h => h.elim)))
      clear K6 RT RB Q0 QT QR QA hV5
      go_wp2_with fail
      go_ret
      exact ⟨rfl, ⟨D5.out, by rw [HTK.out, if_neg (by simpa using hzx)]; exact C5.out⟩, M5.out⟩
end
end Go.Proofs.Ytdllgmhipenidaa
