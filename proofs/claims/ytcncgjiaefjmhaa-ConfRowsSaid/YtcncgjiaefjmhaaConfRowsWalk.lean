/- ConfRows' walk (printed by wip/tools/gen10/genrows.py). -/
import Derived.Test.YtcncgjiaefjmhaaLawM10
import Derived.Deep.QuietTactic
import Derived.BigQuiet
namespace Go.Proofs.Ytcncgjiaefjmhaa
set_option maxRecDepth 1000000
open Go.RowKit
set_option linter.unusedVariables false
set_option linter.unusedSimpArgs false

def lastS : List PW → Int → Int
  | [], b => b
  | r :: l, _ => lastS l r.shard
theorem rowsB_snoc : ∀ (l : List PW) (q : PW) (b : Int), rowsB (l ++ [q]) b = (rowsB l b && rowB q (lastS l b))
  | [], q, b => by simp [rowsB, lastS]
  | r :: l, q, b => by simp [rowsB, lastS, rowsB_snoc l q r.shard, Bool.and_assoc]
theorem lastS_snoc : ∀ (l : List PW) (q : PW) (b : Int), lastS (l ++ [q]) b = q.shard
  | [], q, b => rfl
  | r :: l, q, b => by simp [lastS, lastS_snoc l q r.shard]
theorem lastS_ge : ∀ (l : List PW) (b : Int), rowsB l b = true → b ≤ lastS l b
  | [], b, _ => Int.le_refl _
  | r :: l, b, h => by
    simp only [rowsB, Bool.and_eq_true, rowB, decide_eq_true_eq] at h
    have := lastS_ge l r.shard h.2
    simp only [lastS]
    omega
def mayP (n : Nat) (l : List PW) (j : Nat) : Bool := decide (n ≤ 8) && rowsB (l.take j) (-1)
theorem mayP_succ {n j : Nat} {l : List PW} {q : PW} (h : l[j]? = some q) : mayP n l (j + 1) = (mayP n l j && rowB q (lastS (l.take j) (-1))) := by
  obtain ⟨hj, e⟩ := List.getElem?_eq_some_iff.1 h
  unfold mayP
  rw [List.take_succ_eq_append_getElem hj, e, rowsB_snoc, Bool.and_assoc]
theorem take_last {j : Nat} {l : List PW} {q : PW} (h : l[j]? = some q) (b : Int) : lastS (l.take (j + 1)) b = q.shard := by
  obtain ⟨hj, e⟩ := List.getElem?_eq_some_iff.1 h
  rw [List.take_succ_eq_append_getElem hj, e, lastS_snoc]
theorem rows_full {l : List PW} {n : Nat} (hn : l.length = n) : mayP n l n = rowsB l (-1) := by
  unfold mayP
  rw [List.take_of_length_le (by omega)]
  cases h : rowsB l (-1) with
  | false => simp
  | true => have := rowsB_8 h; simp; omega
theorem chk_rows {l : List PW} : chkC { op := 4, rows := l } = if rowsB l (-1) = true then 0 else 1 := by
  unfold chkC
  have h : opB { op := 4, rows := l } = true := by simp [opB]
  simp [h]
set_option maxHeartbeats 8000000 in
theorem confRows_walk (w : World) {A : Option Addr} {n c : Nat} {l : List (List Fv)} (ha : Acts w A n c [.int .i64, .u64s] l) :
    Calls Try.prog 7 #[.slice A n c] w fun e w' => e = .returned (.bool true) ∧ Mods Nil w w' := by
  obtain ⟨L, rfl, hR⟩ := rws_of_acts ha
  clear ha
  have HL := Lib.hid hR
  have hlen : (pws L).length = n := by simp [pws, hR.len]
  have HN := Lib.hid hlen
  have hle := hR.le
  have hmx := hR.most
  have HSH := Lib.hid (fun W (hW : Mods Nil w W) => short_any W { op := 4, rows := pws L } rfl (hR.mods hW))
  by_cases hsb : shortB { op := 4, rows := pws L } = true
  · rw [hsb] at HSH
    have hsb' := hsb
    simp only [shortB, Bool.and_eq_true, decide_eq_true_eq, List.all_eq_true] at hsb'
    have hok : (⟨4, 0, 0, 0, 0, 0, pws L⟩ : PC).ok := ⟨by simp, by simp, by simp, by simp, by simp, by simp, rows_ok hR hsb'.2, by simp only; omega⟩
    have HCH := Lib.hid (fun W (hW : Mods Nil w W) => ccheck_any W ⟨4, 0, 0, 0, 0, 0, pws L⟩ hok rfl (hR.mods hW))
    have hck : chkC ⟨4, 0, 0, 0, 0, 0, pws L⟩ = if rowsB (pws L) (-1) = true then 0 else 1 := chk_rows
    rw [hck] at HCH
    have HF := Lib.hid (rows_full hlen)
    have HM8 := Lib.hid hsb'.2
    have hn12 : (n : Int) ≤ 12 := by have := hsb'.1; omega
    have HBOX := Lib.hid (fun W => Blk.new W 27 (CV { op := 4, rows := pws L } A n c))
    have hz : mayP n (pws L) 0 = decide (n ≤ 8) := by simp [mayP, rowsB]
    have HZ := Lib.hid hz
    clear hsb hsb' hok hck hz hlen hR
    clear hmx hle
    have hdn : decide ((n : Int) ≤ 8) = decide (n ≤ 8) := decide_eq_decide.2 (by omega)
    go_enter Try.func7, Try.ntmps7
    go_wp2_with (first
      | (go_at_call 10; refine (awake10_any _).mono ?_; rintro e w1 ⟨rfl, m1⟩; have M1 := Lib.hid m1; clear m1)
      | (go_at_call 15; refine (HSH.out _ (M1.out.alloc _)).mono ?_; rintro e w2 ⟨rfl, m2⟩; have M2 := Lib.hid ((M1.out.alloc (.cells (CV { op := 4, rows := pws L } A n c) 27)).trans m2); have B2 := Lib.hid ((HBOX.out w1).mods m2 (fun h => h)); clear m2))
    go_loopw [6, 7] (fun p x wr => ∃ (j : Nat), j ≤ n ∧ x = .int .i64 (j : Int) ∧ p = .bool (mayP n (pws L) j) ∧ Mods Nil w2 wr) (fun _ x _ => n - (intOf x).toNat)
    case atStart => exact ⟨0, Nat.zero_le _, rfl, by rw [HZ.out], Mods.refl _ _⟩
    case round =>
      obtain ⟨j, hj, rfl, rfl, hm⟩ := hrel
      have HM := Lib.hid hm
      clear hm
      by_cases hlt : j < n
      · have hjI : (j : Int) < (n : Int) := by omega
        obtain ⟨g, off, q, rfl, hg, hq, hc0, hc1, hs, hx, hsr⟩ := Rws.at_ (HL.out.mods (M2.out.trans HM.out)) hlt
        have hqp : (pws L)[j]? = some q.pw := by simp [pws, hq]
        have hst := mayP_succ (n := n) hqp
        have hm8 : q.lens.length ≤ 8 := by have := HM8.out q.pw (List.mem_of_getElem? hqp); simpa [RowP.pw] using this
        have HST : Hid (mayP n (pws L) (j + 1) = (mayP n (pws L) j && rowB ⟨q.shard, q.lens⟩ (lastS ((pws L).take j) (-1)))) := Lib.hid hst
        have HRB : Hid (∀ b, rowB ⟨q.shard, q.lens⟩ b = decide (b < q.shard ∧ q.shard ≤ 7 ∧ q.lens.length ≤ 4 ∧ (q.lens.length = 0 ∨ q.lens.getLastD 0 ≠ 0))) := Lib.hid (fun b => rfl)
        have K0 : ∀ V, Mods Nil wr V → V.cell? ⟨g, off + j * 2, none⟩ = some (.int .i64 q.shard) := fun V hV => (World.cell?_of_block (hV.block g hg (fun h => h))).trans hc0
        have K1 : ∀ V, Mods Nil wr V → V.cell? ⟨g, off + j * 2 + 1, none⟩ = some (.slice q.A q.lens.length q.cap) := fun V hV => (World.cell?_of_block (hV.block g hg (fun h => h))).trans (by rw [Nat.add_assoc]; exact hc1)
        rw [← Nat.add_assoc] at hc1
        clear hqp hst hc0 hx
        obtain ⟨mv, hmv⟩ : ∃ mv, mayP n (pws L) j = mv := ⟨_, rfl⟩
        rw [hmv] at HST ⊢
        have HMV := Lib.hid hmv
        obtain ⟨s, hqs⟩ : ∃ s, q.shard = s := ⟨_, rfl⟩
        rw [hqs] at HST HRB K0
        obtain ⟨m, hqm⟩ : ∃ m, q.lens.length = m := ⟨_, rfl⟩
        rw [hqm] at HRB K1 hc1 hm8
        have HQM := Lib.hid hqm
        have hsl := Lib.hid hs
        clear hmv hs hqm hq hqs hsr
        cases mv with
        | false =>
          have NV : Hid (mayP n (pws L) (j + 1) = false) := Lib.hid (by rw [HST.out]; rfl)
          clear HST HRB HMV
          go_wp2_with fail
          refine gq_region (by kernel_rfl) (by kernel_rfl) ?_
          try simp only [Act.put, List.setIfInBounds_toArray, List.set_cons_zero, List.set_cons_succ]
          repeat (first
            | go_big_quiet_skip
            | (go_big_quiet_want; first
                | (refine gq_op (v := ?_) ?_ ?_; rotate_left; (focus (intro V hV; go_simp; try with_reducible rfl)); go_big_quiet_on))
              simp only [Act.put, List.setIfInBounds_toArray, List.set_cons_zero, List.set_cons_succ])
          refine wpQuiet_nil ?_
          intro V hV
          have HV := Lib.hid hV
          clear hV K0 K1
          go_wp2_with fail
          exact ⟨⟨j + 1, by omega, by go_num, by rw [NV.out], HM.out.trans HV.out⟩, by simp [intOf]; omega⟩
        | true =>
          by_cases h0 : s < 0
          · have k0 : decide (0 ≤ s) = false := by simp; omega
            have hb : -1 ≤ lastS ((pws L).take j) (-1) := lastS_ge _ _ (by have := HMV.out; simp only [mayP, Bool.and_eq_true] at this; exact this.2)
            have NV : Hid (mayP n (pws L) (j + 1) = false) := Lib.hid (by rw [HST.out]; rw [HRB.out]; simp only [Bool.true_and, decide_eq_false_iff_not]; omega)
            clear HST HRB HMV
            go_wp2_with fail
            refine gq_region (by kernel_rfl) (by kernel_rfl) ?_
            try simp only [Act.put, List.setIfInBounds_toArray, List.set_cons_zero, List.set_cons_succ]
            repeat (first
              | go_big_quiet_skip
              | (go_big_quiet_want; first
                  | (refine gq_op (v := ?_) ?_ ?_; rotate_left; (focus (intro V hV; go_simp; try with_reducible rfl)); go_big_quiet_on))
                simp only [Act.put, List.setIfInBounds_toArray, List.set_cons_zero, List.set_cons_succ])
            refine wpQuiet_nil ?_
            intro V hV
            have HV := Lib.hid hV
            clear hV K0 K1 hb
            go_wp2_with fail
            exact ⟨⟨j + 1, by omega, by go_num, by rw [NV.out], HM.out.trans HV.out⟩, by simp [intOf]; omega⟩
          have h0' : 0 ≤ s := by omega
          have k0 : decide (0 ≤ s) = true := by simp; omega
          by_cases h7 : 7 < s
          · have k7 : decide (s ≤ 7) = false := by simp; omega
            have NV : Hid (mayP n (pws L) (j + 1) = false) := Lib.hid (by rw [HST.out]; rw [HRB.out]; simp only [Bool.true_and, decide_eq_false_iff_not]; omega)
            clear HST HRB HMV
            go_wp2_with fail
            refine gq_region (by kernel_rfl) (by kernel_rfl) ?_
            try simp only [Act.put, List.setIfInBounds_toArray, List.set_cons_zero, List.set_cons_succ]
            repeat (first
              | go_big_quiet_skip
              | (go_big_quiet_want; first
                  | (refine gq_op (v := ?_) ?_ ?_; rotate_left; (focus (intro V hV; go_simp; try with_reducible rfl)); go_big_quiet_on))
                simp only [Act.put, List.setIfInBounds_toArray, List.set_cons_zero, List.set_cons_succ])
            refine wpQuiet_nil ?_
            intro V hV
            have HV := Lib.hid hV
            clear hV K0 K1
            go_wp2_with fail
            exact ⟨⟨j + 1, by omega, by go_num, by rw [NV.out], HM.out.trans HV.out⟩, by simp [intOf]; omega⟩
          have h7' : s ≤ 7 := by omega
          have k7 : decide (s ≤ 7) = true := by simp; omega
          by_cases h4 : 4 < m
          · have k4 : decide ((m : Int) ≤ 4) = false := by simp; omega
            have NV : Hid (mayP n (pws L) (j + 1) = false) := Lib.hid (by rw [HST.out]; rw [HRB.out]; simp only [Bool.true_and, decide_eq_false_iff_not]; omega)
            clear HST HRB HMV
            go_wp2_with fail
            refine gq_region (by kernel_rfl) (by kernel_rfl) ?_
            try simp only [Act.put, List.setIfInBounds_toArray, List.set_cons_zero, List.set_cons_succ]
            repeat (first
              | go_big_quiet_skip
              | (go_big_quiet_want; first
                  | (refine gq_op (v := ?_) ?_ ?_; rotate_left; (focus (intro V hV; go_simp; try with_reducible rfl)); go_big_quiet_on))
                simp only [Act.put, List.setIfInBounds_toArray, List.set_cons_zero, List.set_cons_succ])
            refine wpQuiet_nil ?_
            intro V hV
            have HV := Lib.hid hV
            clear hV K0 K1
            go_wp2_with fail
            exact ⟨⟨j + 1, by omega, by go_num, by rw [NV.out], HM.out.trans HV.out⟩, by simp [intOf]; omega⟩
          have k4 : decide ((m : Int) ≤ 4) = true := by simp; omega
          have h4' : m ≤ 4 := by omega
          have hlast : Hid ((m = 0 ∨ q.lens.getLastD 0 ≠ 0) → rowB ⟨s, q.lens⟩ (lastS ((pws L).take j) (-1)) = decide (lastS ((pws L).take j) (-1) < s)) := Lib.hid (fun h => by rw [HRB.out]; simp only [h7', h4', h, true_and, and_true, and_self])
          by_cases hm0 : m = 0
          · subst hm0
            have hor : Hid ((0 : Nat) = 0 ∨ q.lens.getLastD 0 ≠ 0) := Lib.hid (.inl rfl)
            replace hlast := Lib.hid (hlast.out hor.out)
            have kz : (((0 : Nat) : Int) == 0) = true := rfl
            by_cases hj0 : j = 0
            · have hb0 : lastS ((pws L).take j) (-1) = -1 := by rw [hj0]; rfl
              have kj : ((j : Int) == 0) = true := by rw [beq_iff_eq]; omega
              clear hj0
              have NV : Hid (mayP n (pws L) (j + 1) = true) := Lib.hid (by rw [HST.out]; rw [hlast.out, hb0]; simp; omega)
              clear HST HRB HMV
              go_wp2_with fail
              refine gq_region (by kernel_rfl) (by kernel_rfl) ?_
              try simp only [Act.put, List.setIfInBounds_toArray, List.set_cons_zero, List.set_cons_succ]
              repeat (first
                | go_big_quiet_skip
                | (go_big_quiet_want; first
                    | (refine gq_op (v := ?_) ?_ ?_; rotate_left; (focus (intro V hV; go_simp; try with_reducible rfl)); go_big_quiet_on))
                  simp only [Act.put, List.setIfInBounds_toArray, List.set_cons_zero, List.set_cons_succ])
              refine wpQuiet_nil ?_
              intro V hV
              have HV := Lib.hid hV
              clear hV K0 K1 hb0 hor
              go_wp2_with fail
              exact ⟨⟨j + 1, by omega, by go_num, by rw [NV.out], HM.out.trans HV.out⟩, by simp [intOf]; omega⟩
            obtain ⟨j', hj'⟩ : ∃ j', j = j' + 1 := ⟨j - 1, by omega⟩
            obtain ⟨g2, off2, r, hgg, hg2, hr, hd0, -, -, -, -⟩ := Rws.at_ (HL.out.mods (M2.out.trans HM.out)) (j := j') (by omega)
            injection hgg with hgg; injection hgg with e1 e2 e3; subst e1; subst e2
            have hrp : (pws L)[j']? = some r.pw := by simp [pws, hr]
            have hb1 : lastS ((pws L).take j) (-1) = r.shard := by rw [hj']; exact take_last hrp (-1)
            have KP : ∀ V, Mods Nil wr V → V.cell? ⟨g, off + j' * 2, none⟩ = some (.int .i64 r.shard) := fun V hV => (World.cell?_of_block (hV.block g hg (fun h => h))).trans hd0
            generalize r.shard = ps at hb1 KP hd0
            have hj1 : (j : Int) - 1 = (j' : Int) := by omega
            have hj2 : (j' : Int) < (n : Int) := by omega
            have hj3 : (0 : Int) < (j : Int) := by omega
            have hj4 : j' < n := by omega
            have hj5 : IntKind.i64.wrap (j' : Int) = (j' : Int) := IntWalk.i64_in _ (by omega)
            have hjz : ((j : Int) == 0) = false := by rw [beq_eq_false_iff_ne]; omega
            have HJ' := Lib.hid hj'
            clear hr hrp hd0 hj' e3 hj0
            by_cases hps : ps < s
            · have kp : decide (ps < s) = true := by simp; omega
              have NV : Hid (mayP n (pws L) (j + 1) = true) := Lib.hid (by rw [HST.out]; rw [hlast.out, hb1]; simp [hps])
              clear HST HRB HMV
              go_wp2_with fail
              refine gq_region (by kernel_rfl) (by kernel_rfl) ?_
              try simp only [Act.put, List.setIfInBounds_toArray, List.set_cons_zero, List.set_cons_succ]
              repeat (first
                | go_big_quiet_skip
                | (go_big_quiet_want; first
                    | (refine gq_op (v := ?_) ?_ ?_; rotate_left; (focus (intro V hV; go_simp; try with_reducible rfl)); go_big_quiet_on))
                  simp only [Act.put, List.setIfInBounds_toArray, List.set_cons_zero, List.set_cons_succ])
              refine wpQuiet_nil ?_
              intro V hV
              have HV := Lib.hid hV
              clear hV K0 K1 KP hb1 hor
              go_wp2_with fail
              exact ⟨⟨j + 1, by omega, by go_num, by rw [NV.out], HM.out.trans HV.out⟩, by simp [intOf]; omega⟩
            · have kp : decide (ps < s) = false := by simp; omega
              have NV : Hid (mayP n (pws L) (j + 1) = false) := Lib.hid (by rw [HST.out]; rw [hlast.out, hb1]; simp [hps])
              clear HST HRB HMV
              go_wp2_with fail
              refine gq_region (by kernel_rfl) (by kernel_rfl) ?_
              try simp only [Act.put, List.setIfInBounds_toArray, List.set_cons_zero, List.set_cons_succ]
              repeat (first
                | go_big_quiet_skip
                | (go_big_quiet_want; first
                    | (refine gq_op (v := ?_) ?_ ?_; rotate_left; (focus (intro V hV; go_simp; try with_reducible rfl)); go_big_quiet_on))
                  simp only [Act.put, List.setIfInBounds_toArray, List.set_cons_zero, List.set_cons_succ])
              refine wpQuiet_nil ?_
              intro V hV
              have HV := Lib.hid hV
              clear hV K0 K1 KP hb1 hor
              go_wp2_with fail
              exact ⟨⟨j + 1, by omega, by go_num, by rw [NV.out], HM.out.trans HV.out⟩, by simp [intOf]; omega⟩
          obtain ⟨m', hm'⟩ : ∃ m', m = m' + 1 := ⟨m - 1, by omega⟩
          have hlv : q.lens.getLastD 0 = vat q.lens m' := last_vat (by rw [HQM.out]; exact hm')
          obtain ⟨g3, off3, hA3, hg3, hc3⟩ := sl_num hsl.out (j := m') (by rw [HQM.out]; omega)
          have KL : ∀ V, Mods Nil wr V → V.cell? ⟨g3, off3 + m', none⟩ = some (.int .u64 ((vat q.lens m' : Nat) : Int)) := fun V hV => (World.cell?_of_block (hV.block g3 hg3 (fun h => h))).trans hc3
          rw [hA3] at K1 hc1
          have hm1 : (m : Int) - 1 = (m' : Int) := by omega
          have hm2 : (m' : Int) < (m : Int) := by omega
          have hm5 : IntKind.i64.wrap (m' : Int) = (m' : Int) := IntWalk.i64_in _ (by omega)
          have hmz : ((m : Int) == 0) = false := by rw [beq_eq_false_iff_ne]; omega
          rw [hlv] at hlast HRB
          generalize vat q.lens m' = y at KL hlast HRB hc3 hlv
          have HM' := Lib.hid hm'
          clear hc3 hlv hm' hA3
          by_cases hy : y = 0
          · have ky : decide ((0 : Int) < (y : Int)) = false := by simp; omega
            have NV : Hid (mayP n (pws L) (j + 1) = false) := Lib.hid (by rw [HST.out]; rw [HRB.out]; simp only [Bool.true_and, decide_eq_false_iff_not]; omega)
            clear HST HRB HMV
            go_wp2_with fail
            refine gq_region (by kernel_rfl) (by kernel_rfl) ?_
            try simp only [Act.put, List.setIfInBounds_toArray, List.set_cons_zero, List.set_cons_succ]
            repeat (first
              | go_big_quiet_skip
              | (go_big_quiet_want; first
                  | (refine gq_op (v := ?_) ?_ ?_; rotate_left; (focus (intro V hV; go_simp; try with_reducible rfl)); go_big_quiet_on))
                simp only [Act.put, List.setIfInBounds_toArray, List.set_cons_zero, List.set_cons_succ])
            refine wpQuiet_nil ?_
            intro V hV
            have HV := Lib.hid hV
            clear hV K0 K1 KL hlast
            go_wp2_with fail
            exact ⟨⟨j + 1, by omega, by go_num, by rw [NV.out], HM.out.trans HV.out⟩, by simp [intOf]; omega⟩
          have ky : decide ((0 : Int) < (y : Int)) = true := by simp; omega
          have ky2 : decide (0 < y) = true := by simp; omega
          have ky3 : 0 < y := by omega
          have hor : Hid (m = 0 ∨ y ≠ 0) := Lib.hid (.inr hy)
          replace hlast := Lib.hid (hlast.out hor.out)
          by_cases hj0 : j = 0
          · have hb0 : lastS ((pws L).take j) (-1) = -1 := by rw [hj0]; rfl
            have kj : ((j : Int) == 0) = true := by rw [beq_iff_eq]; omega
            clear hj0
            have NV : Hid (mayP n (pws L) (j + 1) = true) := Lib.hid (by rw [HST.out]; rw [hlast.out, hb0]; simp; omega)
            clear HST HRB HMV
            go_wp2_with fail
            refine gq_region (by kernel_rfl) (by kernel_rfl) ?_
            try simp only [Act.put, List.setIfInBounds_toArray, List.set_cons_zero, List.set_cons_succ]
            repeat (first
              | go_big_quiet_skip
              | (go_big_quiet_want; first
                  | (refine gq_op (v := ?_) ?_ ?_; rotate_left; (focus (intro V hV; go_simp; try with_reducible rfl)); go_big_quiet_on))
                simp only [Act.put, List.setIfInBounds_toArray, List.set_cons_zero, List.set_cons_succ])
            refine wpQuiet_nil ?_
            intro V hV
            have HV := Lib.hid hV
            clear hV K0 K1 KL hb0 hor
            go_wp2_with fail
            exact ⟨⟨j + 1, by omega, by go_num, by rw [NV.out], HM.out.trans HV.out⟩, by simp [intOf]; omega⟩
          obtain ⟨j', hj'⟩ : ∃ j', j = j' + 1 := ⟨j - 1, by omega⟩
          obtain ⟨g2, off2, r, hgg, hg2, hr, hd0, -, -, -, -⟩ := Rws.at_ (HL.out.mods (M2.out.trans HM.out)) (j := j') (by omega)
          injection hgg with hgg; injection hgg with e1 e2 e3; subst e1; subst e2
          have hrp : (pws L)[j']? = some r.pw := by simp [pws, hr]
          have hb1 : lastS ((pws L).take j) (-1) = r.shard := by rw [hj']; exact take_last hrp (-1)
          have KP : ∀ V, Mods Nil wr V → V.cell? ⟨g, off + j' * 2, none⟩ = some (.int .i64 r.shard) := fun V hV => (World.cell?_of_block (hV.block g hg (fun h => h))).trans hd0
          generalize r.shard = ps at hb1 KP hd0
          have hj1 : (j : Int) - 1 = (j' : Int) := by omega
          have hj2 : (j' : Int) < (n : Int) := by omega
          have hj3 : (0 : Int) < (j : Int) := by omega
          have hj4 : j' < n := by omega
          have hj5 : IntKind.i64.wrap (j' : Int) = (j' : Int) := IntWalk.i64_in _ (by omega)
          have hjz : ((j : Int) == 0) = false := by rw [beq_eq_false_iff_ne]; omega
          have HJ' := Lib.hid hj'
          clear hr hrp hd0 hj' e3 hj0
          by_cases hps : ps < s
          · have kp : decide (ps < s) = true := by simp; omega
            have NV : Hid (mayP n (pws L) (j + 1) = true) := Lib.hid (by rw [HST.out]; rw [hlast.out, hb1]; simp [hps])
            clear HST HRB HMV
            go_wp2_with fail
            refine gq_region (by kernel_rfl) (by kernel_rfl) ?_
            try simp only [Act.put, List.setIfInBounds_toArray, List.set_cons_zero, List.set_cons_succ]
            repeat (first
              | go_big_quiet_skip
              | (go_big_quiet_want; first
                  | (refine gq_op (v := ?_) ?_ ?_; rotate_left; (focus (intro V hV; go_simp; try with_reducible rfl)); go_big_quiet_on))
                simp only [Act.put, List.setIfInBounds_toArray, List.set_cons_zero, List.set_cons_succ])
            refine wpQuiet_nil ?_
            intro V hV
            have HV := Lib.hid hV
            clear hV K0 K1 KL KP hb1 hor
            go_wp2_with fail
            exact ⟨⟨j + 1, by omega, by go_num, by rw [NV.out], HM.out.trans HV.out⟩, by simp [intOf]; omega⟩
          · have kp : decide (ps < s) = false := by simp; omega
            have NV : Hid (mayP n (pws L) (j + 1) = false) := Lib.hid (by rw [HST.out]; rw [hlast.out, hb1]; simp [hps])
            clear HST HRB HMV
            go_wp2_with fail
            refine gq_region (by kernel_rfl) (by kernel_rfl) ?_
            try simp only [Act.put, List.setIfInBounds_toArray, List.set_cons_zero, List.set_cons_succ]
            repeat (first
              | go_big_quiet_skip
              | (go_big_quiet_want; first
                  | (refine gq_op (v := ?_) ?_ ?_; rotate_left; (focus (intro V hV; go_simp; try with_reducible rfl)); go_big_quiet_on))
                simp only [Act.put, List.setIfInBounds_toArray, List.set_cons_zero, List.set_cons_succ])
            refine wpQuiet_nil ?_
            intro V hV
            have HV := Lib.hid hV
            clear hV K0 K1 KL KP hb1 hor
            go_wp2_with fail
            exact ⟨⟨j + 1, by omega, by go_num, by rw [NV.out], HM.out.trans HV.out⟩, by simp [intOf]; omega⟩
      · obtain rfl : n = j := by omega
        rw [HF.out]
        obtain ⟨d0, d1, d2, d3, d4, d5, d6⟩ := cv_seven (B2.out.mods HM.out (fun h => h))
        cases hrb : rowsB (pws L) (-1) with
        | false =>
          rw [hrb, if_neg (by simp)] at HCH
          go_wp2_with (go_at_call 18; refine (HCH.out _ (M2.out.trans HM.out)).mono ?_; rintro e w5 ⟨rfl, m5⟩; have M5 := Lib.hid m5; clear m5)
          go_ret
          exact ⟨rfl, M2.out.trans (HM.out.trans M5.out)⟩
        | true =>
          rw [hrb, if_pos rfl] at HCH
          go_wp2_with (go_at_call 18; refine (HCH.out _ (M2.out.trans HM.out)).mono ?_; rintro e w5 ⟨rfl, m5⟩; have M5 := Lib.hid m5; clear m5)
          go_ret
          exact ⟨rfl, M2.out.trans (HM.out.trans M5.out)⟩
  · have hsb' : shortB { op := 4, rows := pws L } = false := by simpa using hsb
    rw [hsb'] at HSH
    clear hsb hsb' hlen hR
    go_enter Try.func7, Try.ntmps7
    go_wp2_with (first
      | (go_at_call 10; refine (awake10_any _).mono ?_; rintro e w1 ⟨rfl, m1⟩; have M1 := Lib.hid m1; clear m1)
      | (go_at_call 15; refine (HSH.out _ (M1.out.alloc _)).mono ?_; rintro e w2 ⟨rfl, m2⟩; have M2 := Lib.hid ((M1.out.alloc (.cells (CV { op := 4, rows := pws L } A n c) 27)).trans m2); clear m2))
    go_ret
    exact ⟨rfl, M2.out⟩
end Go.Proofs.Ytcncgjiaefjmhaa
