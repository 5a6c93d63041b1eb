/- The reference of layer 10: whether a command may be (Check). -/
import Derived.Test.YtcncgjiaefjmhaaRef10a
namespace Go.Proofs.Ytcncgjiaefjmhaa
set_option maxRecDepth 100000
open Go.RowKit
set_option linter.unusedVariables false
set_option linter.unusedSimpArgs false

/-- A command by value. -/
@[reducible] def CC (c : PC) (A : Option Addr) (n k : Nat) : Array Value := #[.int .i64 c.op, .int .u64 (c.client : Int), .int .u64 (c.seq : Int), .int .i64 c.shard, .int .i64 c.segs, .int .u64 (c.pos : Int), .slice A n k]
theorem Blk.seven {w : World} {g : Nat} {t : TypeId} {a b c d e f x : Value} (h : Blk w g t #[a, b, c, d, e, f, x]) :
    w.cell? ⟨g, 0, none⟩ = some a ∧ w.cell? ⟨g, 1, none⟩ = some b ∧ w.cell? ⟨g, 2, none⟩ = some c ∧ w.cell? ⟨g, 3, none⟩ = some d ∧ w.cell? ⟨g, 4, none⟩ = some e ∧ w.cell? ⟨g, 5, none⟩ = some f ∧ w.cell? ⟨g, 6, none⟩ = some x :=
  ⟨by simpa using h.cell 0, by simpa using h.cell 1, by simpa using h.cell 2, by simpa using h.cell 3, by simpa using h.cell 4, by simpa using h.cell 5, by simpa using h.cell 6⟩
theorem rowsB_drop {l : List PW} {j : Nat} {q : PW} (h : l[j]? = some q) (b : Int) : rowsB (l.drop j) b = (rowB q b && rowsB (l.drop (j + 1)) q.shard) := by
  obtain ⟨hj, e⟩ := List.getElem?_eq_some_iff.1 h
  rw [List.drop_eq_getElem_cons hj, e]; rfl
set_option maxHeartbeats 3200000 in
theorem r10check_any (w : World) {op shard segs : Int} {client seq pos : Nat} {A : Option Addr} {n k : Nat} {L : List RowP} (h : Rws w A n k L) :
    Calls Try.prog 19 #[.agg #[.int .i64 op, .int .u64 (client : Int), .int .u64 (seq : Int), .int .i64 shard, .int .i64 segs, .int .u64 (pos : Int), .slice A n k]] w fun e w' => e = .returned (.int .i64 (chkC ⟨op, client, seq, shard, segs, pos, pws L⟩)) ∧ Mods Nil w w' := by
  have HL := Lib.hid h
  have HN := Lib.hid h.len
  have hmax := h.most
  have hle := h.le
  have hn47 : n ≤ 9223372036854775807 := by unfold maxLen at hmax; omega
  clear hle hmax
  have HC : Hid (chkC ⟨op, client, seq, shard, segs, pos, pws L⟩ = if rowsB (pws L) (-1) = true ∧ opB ⟨op, client, seq, shard, segs, pos, pws L⟩ = true then 0 else 1) := Lib.hid rfl
  generalize chkC ⟨op, client, seq, shard, segs, pos, pws L⟩ = ck at HC ⊢
  clear h
  have AB := Blk.new w 33 #[.int .i64 op, .int .u64 (client : Int), .int .u64 (seq : Int), .int .i64 shard, .int .i64 segs, .int .u64 (pos : Int), .slice A n k]
  have MM := (Mods.refl Nil w).alloc (.cells #[.int .i64 op, .int .u64 (client : Int), .int .u64 (seq : Int), .int .i64 shard, .int .i64 segs, .int .u64 (pos : Int), .slice A n k] 33)
  obtain ⟨w1, hw1⟩ : ∃ w1, w.alloc (.cells #[.int .i64 op, .int .u64 (client : Int), .int .u64 (seq : Int), .int .i64 shard, .int .i64 segs, .int .u64 (pos : Int), .slice A n k] 33) = w1 := ⟨_, rfl⟩
  rw [hw1] at AB MM
  replace AB := Lib.hid AB
  replace MM := Lib.hid MM
  go_enter Try.func19, Try.ntmps19
  go_wp2_with fail
  go_loopw [3, 4] (fun p x wr => ∃ (j : Nat) (b : Int), j ≤ n ∧ x = .int .i64 (j : Int) ∧ p = .int .i64 b ∧ rowsB (pws L) (-1) = rowsB ((pws L).drop j) b ∧ Mods Nil w1 wr) (fun _ x _ => n - (intOf x).toNat)
  case atStart => exact ⟨0, -1, Nat.zero_le _, rfl, rfl, by simp, Mods.refl _ _⟩
  case round =>
    obtain ⟨j, b, hj, rfl, rfl, hr, hm⟩ := hrel
    have HM := Lib.hid hm
    have HRR := Lib.hid hr
    have ABr := AB.out.mods hm (fun h => h)
    obtain ⟨d0, d1, d2, d3, d4, d5, d6⟩ := ABr.seven
    clear hm hr ABr
    by_cases hlt : j < n
    · have hjI : (j : Int) < (n : Int) := by omega
      obtain ⟨g, off, q, rfl, hg, hq, hc0, hc1, hs, hx, -⟩ := Rws.at_ (HL.out.mods ((MM.out).trans HM.out)) hlt
      have hqp : (pws L)[j]? = some q.pw := by simp [pws, hq]
      have hst := Lib.hid (rowsB_drop hqp b)
      obtain ⟨v, hv⟩ : ∃ v, rowB q.pw b = v := ⟨_, rfl⟩
      rw [hv] at hst
      have HROW : Hid (∀ W, Mods Nil wr W → Calls Try.prog 39 #[.agg #[.int .i64 q.shard, .slice q.A q.lens.length q.cap], .int .i64 b] W fun e w' => e = .returned (.bool v) ∧ Mods Nil W w') := Lib.hid (fun W hW => hv ▸ r10row_any W rfl (hs.mods hW (fun _ _ h => h)))
      have HC0 := Lib.hid (⟨hg, hc0⟩ : g < wr.heap.size ∧ _)
      generalize q.lens.length = m at hc1 HROW
      generalize q.A = A2 at hc1 HROW
      generalize q.cap = c2 at hc1 HROW
      have hsh : q.pw.shard = q.shard := rfl
      rw [hsh] at hst
      generalize q.shard = sh at hc0 HROW hst HC0
      rw [← Nat.add_assoc] at hc1
      clear hs hx hq hqp hv hg hsh
      cases v with
      | false =>
        have hck : ck = 1 := by rw [HC.out, HRR.out, hst.out]; simp
        subst hck
        clear hst HC HRR
        go_wp2_with (first
          | (go_at_call 39; refine (HROW.out _ (Mods.refl _ _)).mono ?_; rintro e w6 ⟨rfl, m6⟩; have M6 := Lib.hid m6; clear m6))
        go_ret
        exact ⟨rfl, MM.out.trans (HM.out.trans M6.out)⟩
      | true =>
        go_wp2_with (first
          | (go_at_call 39; refine (HROW.out _ (Mods.refl _ _)).mono ?_; rintro e w6 ⟨rfl, m6⟩; have M6 := Lib.hid m6; clear m6; clear d0 d1 d2 d3 d4 d5 d6 hc0 hc1; obtain ⟨d0, d1, d2, d3, d4, d5, d6⟩ := (AB.out.mods (HM.out.trans M6.out) (fun h => h)).seven; have hc0 := (World.cell?_of_block (M6.out.block g HC0.out.1 (fun h => h))).trans HC0.out.2))
        exact ⟨⟨j + 1, sh, by omega, by go_num, rfl, by rw [HRR.out, hst.out]; rfl, HM.out.trans M6.out⟩, by simp [intOf]; omega⟩
    · obtain rfl : n = j := by omega
      have HT : Hid (rowsB (pws L) (-1) = true) := Lib.hid (by rw [HRR.out, List.drop_of_length_le (by simp [pws, HN.out])]; rfl)
      clear HRR
      have hl : (pws L).length = n := by simp [pws, HN.out]
      by_cases h0 : op = 0
      · subst h0
        have HO : Hid (ck = if (client : Int) = 0 ∧ (seq : Int) = 0 ∧ shard = 0 ∧ segs = 0 ∧ (pos : Int) = 0 ∧ (n : Int) = 0 then 0 else 1) := Lib.hid (by
          rw [HC.out]; simp only [HT.out, opB, if_true, true_and, decide_eq_true_eq, hl, Int.natCast_eq_zero, if_false])
        clear HC hl
        as_aux_lemma =>
        go_wp2_with fail
        all_goals (go_ret; refine ⟨?_, MM.out.trans HM.out⟩; (try clear AB hw1); (try clear d0 d1 d2 d3 d4 d5 d6); first | exact congrArg (fun z => Ending.returned (Value.int .i64 z)) (show 0 = ck by rw [HO.out, if_pos (by omega)]) | exact congrArg (fun z => Ending.returned (Value.int .i64 z)) (show 1 = ck by rw [HO.out, if_neg (by omega)]) | (rename_i hz; simp only [Bool.not_eq_true', Bool.not_eq_false', beq_iff_eq, beq_eq_false_iff_ne, decide_eq_true_eq, decide_eq_false_iff_not, ne_eq, Bool.not_eq_eq_eq_not, Bool.not_true, Bool.not_false] at hz; first | exact congrArg (fun z => Ending.returned (Value.int .i64 z)) (show 0 = ck by rw [HO.out, if_pos (by omega)]) | exact congrArg (fun z => Ending.returned (Value.int .i64 z)) (show 1 = ck by rw [HO.out, if_neg (by omega)])))
      by_cases h1 : op = 1
      · subst h1
        have HO : Hid (ck = if 0 ≤ shard ∧ shard ≤ 7 ∧ 1 ≤ segs ∧ segs ≤ 4 ∧ (pos : Int) = 0 ∧ (n : Int) = 0 then 0 else 1) := Lib.hid (by
          rw [HC.out]; simp only [HT.out, opB, if_true, true_and, decide_eq_true_eq, hl, Int.natCast_eq_zero, show ¬ (1 : Int) = 0 by omega, if_false])
        clear HC hl
        as_aux_lemma =>
        go_wp2_with fail
        all_goals (go_ret; refine ⟨?_, MM.out.trans HM.out⟩; (try clear AB hw1); (try clear d0 d1 d2 d3 d4 d5 d6); first | exact congrArg (fun z => Ending.returned (Value.int .i64 z)) (show 0 = ck by rw [HO.out, if_pos (by omega)]) | exact congrArg (fun z => Ending.returned (Value.int .i64 z)) (show 1 = ck by rw [HO.out, if_neg (by omega)]) | (rename_i hz; simp only [Bool.not_eq_true', Bool.not_eq_false', beq_iff_eq, beq_eq_false_iff_ne, decide_eq_true_eq, decide_eq_false_iff_not, ne_eq, Bool.not_eq_eq_eq_not, Bool.not_true, Bool.not_false] at hz; first | exact congrArg (fun z => Ending.returned (Value.int .i64 z)) (show 0 = ck by rw [HO.out, if_pos (by omega)]) | exact congrArg (fun z => Ending.returned (Value.int .i64 z)) (show 1 = ck by rw [HO.out, if_neg (by omega)])))
      by_cases h3 : op = 3
      · subst h3
        have HO : Hid (ck = if shard = 0 ∧ segs = 0 ∧ (n : Int) = 0 then 0 else 1) := Lib.hid (by
          rw [HC.out]; simp only [HT.out, opB, if_true, true_and, decide_eq_true_eq, hl, Int.natCast_eq_zero, show ¬ (3 : Int) = 0 by omega, show ¬ (3 : Int) = 1 by omega, show ¬ (3 : Int) = 2 by omega, if_false])
        clear HC hl
        as_aux_lemma =>
        go_wp2_with fail
        all_goals (go_ret; refine ⟨?_, MM.out.trans HM.out⟩; (try clear AB hw1); (try clear d0 d1 d2 d3 d4 d5 d6); first | exact congrArg (fun z => Ending.returned (Value.int .i64 z)) (show 0 = ck by rw [HO.out, if_pos (by omega)]) | exact congrArg (fun z => Ending.returned (Value.int .i64 z)) (show 1 = ck by rw [HO.out, if_neg (by omega)]) | (rename_i hz; simp only [Bool.not_eq_true', Bool.not_eq_false', beq_iff_eq, beq_eq_false_iff_ne, decide_eq_true_eq, decide_eq_false_iff_not, ne_eq, Bool.not_eq_eq_eq_not, Bool.not_true, Bool.not_false] at hz; first | exact congrArg (fun z => Ending.returned (Value.int .i64 z)) (show 0 = ck by rw [HO.out, if_pos (by omega)]) | exact congrArg (fun z => Ending.returned (Value.int .i64 z)) (show 1 = ck by rw [HO.out, if_neg (by omega)])))
      by_cases h4 : op = 4
      · subst h4
        have HO : Hid (ck = if (client : Int) = 0 ∧ (seq : Int) = 0 ∧ shard = 0 ∧ segs = 0 ∧ (pos : Int) = 0 then 0 else 1) := Lib.hid (by
          rw [HC.out]; simp only [HT.out, opB, if_true, true_and, decide_eq_true_eq, hl, Int.natCast_eq_zero, show ¬ (4 : Int) = 0 by omega, show ¬ (4 : Int) = 1 by omega, show ¬ (4 : Int) = 2 by omega, show ¬ (4 : Int) = 3 by omega, if_false])
        clear HC hl
        as_aux_lemma =>
        go_wp2_with fail
        all_goals (go_ret; refine ⟨?_, MM.out.trans HM.out⟩; (try clear AB hw1); (try clear d0 d1 d2 d3 d4 d5 d6); first | exact congrArg (fun z => Ending.returned (Value.int .i64 z)) (show 0 = ck by rw [HO.out, if_pos (by omega)]) | exact congrArg (fun z => Ending.returned (Value.int .i64 z)) (show 1 = ck by rw [HO.out, if_neg (by omega)]) | (rename_i hz; simp only [Bool.not_eq_true', Bool.not_eq_false', beq_iff_eq, beq_eq_false_iff_ne, decide_eq_true_eq, decide_eq_false_iff_not, ne_eq, Bool.not_eq_eq_eq_not, Bool.not_true, Bool.not_false] at hz; first | exact congrArg (fun z => Ending.returned (Value.int .i64 z)) (show 0 = ck by rw [HO.out, if_pos (by omega)]) | exact congrArg (fun z => Ending.returned (Value.int .i64 z)) (show 1 = ck by rw [HO.out, if_neg (by omega)])))
      by_cases h2 : op = 2
      · subst h2
        obtain ⟨sh, hsh⟩ : ∃ sh, ((pws L).headD {}).shard = sh := ⟨_, rfl⟩
        have HO : Hid (ck = if 0 ≤ shard ∧ shard ≤ 7 ∧ segs = 0 ∧ pos = 0 ∧ (n = 0 ∨ (n = 1 ∧ sh = shard)) then 0 else 1) := Lib.hid (by
          rw [HC.out]; simp only [HT.out, opB, if_true, true_and, decide_eq_true_eq, hl, hsh, show ¬ (2 : Int) = 0 by omega, show ¬ (2 : Int) = 1 by omega, if_false])
        have HSH := Lib.hid hsh
        clear HC hl hsh
        by_cases g0 : shard < 0
        · clear HSH
          have hck : ck = 1 := by rw [HO.out, if_neg (by omega)]
          subst hck
          clear HO
          have a0 : decide (0 ≤ shard) = false := by simp; omega
          as_aux_lemma =>
          go_wp2_with fail
          all_goals (go_quiet (fail); go_wp2_with fail; go_ret; exact ⟨rfl, MM.out.trans (HM.out.drewN _)⟩)
        by_cases g1 : 7 < shard
        · clear HSH
          have hck : ck = 1 := by rw [HO.out, if_neg (by omega)]
          subst hck
          clear HO
          have a0 : decide (0 ≤ shard) = true := by simp; omega
          have a1 : decide (shard < 8) = false := by simp; omega
          as_aux_lemma =>
          go_wp2_with fail
          all_goals (go_quiet (fail); go_wp2_with fail; go_ret; exact ⟨rfl, MM.out.trans (HM.out.drewN _)⟩)
        by_cases g2 : ¬ segs = 0
        · clear HSH
          have hck : ck = 1 := by rw [HO.out, if_neg (by omega)]
          subst hck
          clear HO
          have a0 : decide (0 ≤ shard) = true := by simp; omega
          have a1 : decide (shard < 8) = true := by simp; omega
          have a2 : (segs == 0) = false := by rw [beq_eq_false_iff_ne]; exact g2
          as_aux_lemma =>
          go_wp2_with fail
          all_goals (go_quiet (fail); go_wp2_with fail; go_ret; exact ⟨rfl, MM.out.trans (HM.out.drewN _)⟩)
        obtain rfl : segs = 0 := Classical.not_not.1 g2
        clear g2
        by_cases g3 : ¬ pos = 0
        · clear HSH
          have hck : ck = 1 := by rw [HO.out, if_neg (by omega)]
          subst hck
          clear HO
          have a0 : decide (0 ≤ shard) = true := by simp; omega
          have a1 : decide (shard < 8) = true := by simp; omega
          have a2 : ((pos : Int) == 0) = false := by rw [beq_eq_false_iff_ne]; omega
          as_aux_lemma =>
          go_wp2_with fail
          all_goals (go_quiet (fail); go_wp2_with fail; go_ret; exact ⟨rfl, MM.out.trans (HM.out.drewN _)⟩)
        obtain rfl : pos = 0 := Classical.not_not.1 g3
        clear g3
        by_cases g4 : n = 0
        · clear HSH
          subst g4
          have hck : ck = 0 := by rw [HO.out, if_pos (by omega)]
          subst hck
          clear HO
          have a0 : decide (0 ≤ shard) = true := by simp; omega
          have a1 : decide (shard < 8) = true := by simp; omega
          as_aux_lemma =>
          go_wp2_with fail
          all_goals (go_quiet (fail); go_wp2_with fail; go_ret; exact ⟨rfl, MM.out.trans (HM.out.drewN _)⟩)
        by_cases g5 : ¬ n = 1
        · clear HSH
          have hck : ck = 1 := by rw [HO.out, if_neg (by omega)]
          subst hck
          clear HO
          have a0 : decide (0 ≤ shard) = true := by simp; omega
          have a1 : decide (shard < 8) = true := by simp; omega
          have a2 : ((n : Int) == 0) = false := by rw [beq_eq_false_iff_ne]; omega
          have a3 : ((n : Int) == 1) = false := by rw [beq_eq_false_iff_ne]; omega
          as_aux_lemma =>
          go_wp2_with fail
          all_goals (go_quiet (fail); go_wp2_with fail; go_ret; exact ⟨rfl, MM.out.trans (HM.out.drewN _)⟩)
        obtain rfl : n = 1 := Classical.not_not.1 g5
        clear g4 g5
        obtain ⟨g, off, q, rfl, hg, hq, hc0, -⟩ := Rws.at_ (HL.out.mods ((MM.out).trans HM.out)) (show 0 < 1 by omega)
        have hqs : q.shard = sh := by
          rw [← HSH.out]
          cases L with
          | nil => simp at hq
          | cons r L => simp at hq; subst hq; rfl
        rw [hqs, Nat.zero_mul, Nat.add_zero] at hc0
        clear HSH hqs hq
        by_cases g6 : ¬ sh = shard
        · skip
          have hck : ck = 1 := by rw [HO.out, if_neg (by omega)]
          subst hck
          clear HO
          have a0 : decide (0 ≤ shard) = true := by simp; omega
          have a1 : decide (shard < 8) = true := by simp; omega
          have a2 : (sh == shard) = false := by rw [beq_eq_false_iff_ne]; exact g6
          as_aux_lemma =>
          go_wp2_with fail
          all_goals (go_quiet (fail); go_wp2_with fail; go_ret; exact ⟨rfl, MM.out.trans (HM.out.drewN _)⟩)
        · obtain rfl : sh = shard := Classical.not_not.1 g6
          have hck : ck = 0 := by rw [HO.out, if_pos (by omega)]
          subst hck
          clear HO
          have a0 : decide (0 ≤ sh) = true := by simp; omega
          have a1 : decide (sh < 8) = true := by simp; omega
          as_aux_lemma =>
          go_wp2_with fail
          all_goals (go_quiet (fail); go_wp2_with fail; go_ret; exact ⟨rfl, MM.out.trans (HM.out.drewN _)⟩)
      · have hck : ck = 1 := by
          rw [HC.out]; simp only [opB, h0, h1, h2, h3, h4, if_false]; simp
        subst hck
        clear HC hl
        as_aux_lemma =>
        go_wp2_with fail
        all_goals (go_ret; exact ⟨rfl, MM.out.trans HM.out⟩)
end Go.Proofs.Ytcncgjiaefjmhaa
