/- The reference of layer 10: rows, as they are put (rows). -/
import Derived.Test.YtcncgjiaefjmhaaRef10c
import Derived.Test.YtcncgjiaefjmhaaConf1
import Derived.Deep.QuietTactic
import Derived.BigQuiet
namespace Go.Proofs.Ytcncgjiaefjmhaa
set_option maxRecDepth 100000
open Go.RowKit
set_option linter.unusedVariables false
set_option linter.unusedSimpArgs false

def rowsP (n : Nat) (l : List PW) (j : Nat) : List UInt8 := putAll (n :: rowsN (l.take j))
theorem rowsP_zero (n : Nat) (l : List PW) : rowsP n l 0 = putU n := by simp [rowsP, rowsN, putAll]
theorem rowsP_succ {n j : Nat} {l : List PW} {q : PW} (h : l[j]? = some q) : rowsP n l (j + 1) = (rowsP n l j ++ (putU q.shard.toNat ++ putU q.lens.length)) ++ putAll q.lens := by
  obtain ⟨hj, e⟩ := List.getElem?_eq_some_iff.1 h
  unfold rowsP
  rw [List.take_succ_eq_append_getElem hj, e, rowsN_append]
  simp [rowsN, rowN, putAll, putAll_append]
theorem rowsN_len : ∀ (l : List PW), (∀ r ∈ l, rowS r) → (rowsN l).length ≤ 6 * l.length
  | [], _ => by simp [rowsN]
  | r :: l, h => by
    have h1 := (h r List.mem_cons_self).2.2.1
    have h2 := rowsN_len l (fun q hq => h q (List.mem_cons_of_mem _ hq))
    simp only [rowsN, rowN, List.length_append, List.length_cons]
    omega
theorem rowsP_len {n j : Nat} {l : List PW} (hn : n ≤ 8) (hl : l.length ≤ 8) (h : ∀ r ∈ l, rowS r) : (rowsP n l j).length ≤ 441 := by
  have hS : ∀ r ∈ l.take j, rowS r := fun r hr => h r (List.mem_of_mem_take hr)
  have h1 := rowsN_len (l.take j) hS
  have h2 := putAll_length (n :: rowsN (l.take j)) (fun x hx => by
    rcases List.mem_cons.1 hx with e | hx
    · omega
    · exact rowsN_lt _ hS x hx)
  have h3 : (l.take j).length ≤ 8 := by simp; omega
  unfold rowsP
  simp only [List.length_cons] at h2
  omega
set_option maxHeartbeats 3200000 in
theorem r10rows_any (w : World) {A : Option Addr} {n c : Nat} {L : List RowP} (h : Rws w A n c L) (h8 : n ≤ 8) (hS : ∀ r ∈ pws L, rowS r) :
    Calls Try.prog 35 #[.slice A n c] w fun e w' => e = .returned (.string (strOf (rowsP n (pws L) n))) ∧ Mods Nil w w' := by
  have HL := Lib.hid h
  have hlen : (pws L).length = n := by simp [pws, h.len]
  have HP := Lib.hid (fun j => rowsP_len (n := n) (j := j) (l := pws L) h8 (by omega) hS)
  have HS := Lib.hid hS
  have HZ := Lib.hid (rowsP_zero n (pws L))
  have HU := Lib.hid (fun W => ruint_any n (by omega) W)
  have hw := (IntKind.wrap_u64 (n : Int)).trans (show _ = (n : Int) by omega)
  have hwi : IntKind.u64.wrap (n : Int) = (n : Int) := hw
  clear h hS hlen hw
  go_enter Try.func35, Try.ntmps35
  go_wp2_with (go_at_call 34; refine (HU.out _).mono ?_; rintro e w1 ⟨rfl, m1⟩; have M1 := Lib.hid m1; clear m1)
  clear HU
  go_loopw [3, 4] (fun p x wr => ∃ j : Nat, j ≤ n ∧ x = .int .i64 (j : Int) ∧ p = .string (strOf (rowsP n (pws L) j)) ∧ Mods Nil w wr) (fun _ x _ => n - (intOf x).toNat)
  case atStart => exact ⟨0, Nat.zero_le _, rfl, by rw [HZ.out], M1.out⟩
  case round =>
    obtain ⟨j, hj, rfl, rfl, hm⟩ := hrel
    have HM := Lib.hid hm
    clear hm
    by_cases hlt : j < n
    · have hjI : (j : Int) < (n : Int) := by omega
      obtain ⟨g, off, q, rfl, hg, hq, hc0, hc1, hs, hx, -⟩ := Rws.at_ (HL.out.mods HM.out) hlt
      have hqp : (pws L)[j]? = some q.pw := by simp [pws, hq]
      have hst := rowsP_succ (n := n) hqp
      obtain ⟨t0, t7, t4, -⟩ := HS.out _ (List.mem_of_getElem? hqp)
      have t0' : 0 ≤ q.shard := t0
      have t7' : q.shard ≤ 7 := t7
      have t4' : q.lens.length ≤ 4 := t4
      have hqs : q.pw.shard = q.shard := rfl
      have hql : q.pw.lens = q.lens := rfl
      rw [hqs, hql] at hst
      obtain ⟨s, hs7⟩ : ∃ s : Nat, q.shard = s := ⟨q.shard.toNat, by omega⟩
      rw [hs7] at hst hc0 t7'
      rw [Int.toNat_natCast] at hst
      rw [← Nat.add_assoc] at hc1
      have HP0 := HP.out j
      have HST := Lib.hid hst
      generalize rowsP n (pws L) j = S0 at HST HP0 ⊢
      obtain ⟨xs, hxs⟩ : ∃ xs, q.lens = xs := ⟨_, rfl⟩
      rw [hxs] at HST hc1 hs hx t4'
      obtain ⟨m, hm⟩ : ∃ m, xs.length = m := ⟨_, rfl⟩
      rw [hm] at HST hc1 t4'
      generalize q.A = A2 at hc1 hs
      generalize q.cap = c2 at hc1 hs
      have HC := Lib.hid (⟨hg, hc0, hc1⟩ : g < wr.heap.size ∧ _ ∧ _)
      have HXS := Lib.hid hs
      have HX := Lib.hid hx
      have HMM := Lib.hid hm
      have HM4 := Lib.hid t4'
      have u1 := putU_length s (by omega)
      have u2 := putU_length m (by omega)
      have HU1 := Lib.hid (gq_of (W := wr) (fun V => ruint_any s (by omega) V))
      have HU2 := Lib.hid (gq_of (W := wr) (fun V => ruint_any m (by omega) V))
      have hadd1 := fun W => string_add Try.prog (putU s) (putU m) (by omega) W
      have hadd2 := fun W => string_add Try.prog S0 (putU s ++ putU m) (by simp; omega) W
      have hwm : IntKind.u64.wrap (m : Int) = (m : Int) := (IntKind.wrap_u64 (m : Int)).trans (by omega)
      have hws : IntKind.u64.wrap (s : Int) = (s : Int) := (IntKind.wrap_u64 (s : Int)).trans (by omega)
      clear hst t0 t7 t4 t0' t7' t4' hqs hql hs7 hxs hm hs hx hq hqp u1 u2
      go_wp2_with fail
      refine gq_region (by kernel_rfl) (by kernel_rfl) ?_
      try simp only [Act.put, List.setIfInBounds_toArray, List.set_cons_zero, List.set_cons_succ]
      repeat (first
        | go_big_quiet_skip
        | (go_big_quiet_want; first
            | (refine gq_call HU1.out ?_ ?_; (focus (intro V; go_simp; done)); go_big_quiet_on)
            | (refine gq_call HU2.out ?_ ?_; (focus (intro V; go_simp; done)); go_big_quiet_on)
            | (refine gq_op (v := ?_) ?_ ?_; rotate_left; (focus (intro V hV; have k0 := (World.cell?_of_block (hV.block g HC.out.1 (fun h => h))).trans HC.out.2.1; have k1 := (World.cell?_of_block (hV.block g HC.out.1 (fun h => h))).trans HC.out.2.2; go_simp; try with_reducible rfl)); go_big_quiet_on))
          simp only [Act.put, List.setIfInBounds_toArray, List.set_cons_zero, List.set_cons_succ])
      refine wpQuiet_nil ?_
      intro V6 hV6
      have HV6 := Lib.hid hV6
      clear hV6 hc0 hc1 hadd1 hadd2 hwm hws HU1 HU2
      obtain ⟨S1, hS1⟩ : ∃ S1, S0 ++ (putU s ++ putU m) = S1 := ⟨_, rfl⟩
      rw [hS1] at HST ⊢
      have HS1 : Hid (S1.length ≤ 500) := Lib.hid (by
        have := HP.out (j + 1); rw [HST.out] at this; simp at this; omega)
      clear hS1 HP0
      go_wp2_with fail
      go_loopw [3, 5] (fun p x wr' => ∃ i : Nat, i ≤ m ∧ x = .int .i64 (i : Int) ∧ p = .string (strOf (S1 ++ putAll (xs.take i))) ∧ Mods Nil wr wr') (fun _ x _ => m - (intOf x).toNat)
      case atStart => exact ⟨0, Nat.zero_le _, rfl, by simp [putAll], HV6.out⟩
      case round =>
        obtain ⟨i, hi, rfl, rfl, hm2⟩ := hrel
        have HM2 := Lib.hid hm2
        have k0 := (World.cell?_of_block (hm2.block g HC.out.1 (fun h => h))).trans HC.out.2.1
        have k1 := (World.cell?_of_block (hm2.block g HC.out.1 (fun h => h))).trans HC.out.2.2
        clear hm2
        by_cases hlm : i < m
        · have hiI : (i : Int) < (m : Int) := by omega
          obtain ⟨b2, off2, rfl, hb2, e0⟩ := sl_num (HXS.out.mods HM2.out (fun _ _ h => h)) (j := i) (by rw [HMM.out]; exact hlm)
          have hix : i < xs.length := by rw [HMM.out]; exact hlm
          have hsn := Lib.hid (putAll_snoc xs i hix)
          have hv := vat_lt hix
          have hy64 : vat xs i < 18446744073709551616 := by rw [hv]; exact HX.out _ (List.getElem_mem hix)
          rw [← hv] at hsn
          generalize vat xs i = y at e0 hsn hy64
          have HUY := Lib.hid (fun W => ruint_any y hy64 W)
          have hyl := putU_length y hy64
          have hpl : (putAll (xs.take i)).length ≤ 36 := by
            have := putAll_length (xs.take i) (fun x hx => HX.out x (List.mem_of_mem_take hx))
            have h4 := HM4.out
            simp at this
            omega
          have hS5 := HS1.out
          have hadd := fun W => string_add Try.prog (S1 ++ putAll (xs.take i)) (putU y) (by simp; omega) W
          have hm4 := HM4.out
          clear hv hix hy64 hyl hpl hS5
          go_wp2_with (go_at_call 34; refine (HUY.out _).mono ?_; rintro e w9 ⟨rfl, m9⟩; have M9 := Lib.hid m9; clear m9)
          exact ⟨⟨i + 1, by omega, by go_num, by rw [hsn.out], HM2.out.trans M9.out⟩, by simp [intOf]; omega⟩
        · obtain rfl : m = i := by omega
          have hfull : rowsP n (pws L) (j + 1) = S1 ++ putAll (xs.take m) := by rw [HST.out, List.take_of_length_le (by rw [HMM.out]; exact Nat.le_refl _)]
          have HFL := Lib.hid hfull
          clear hfull
          go_wp2_with fail
          exact ⟨⟨j + 1, by omega, by go_num, by rw [HFL.out], HM.out.trans HM2.out⟩, by simp [intOf]; omega⟩
    · obtain rfl : n = j := by omega
      go_wp2_with fail
      go_ret
      exact ⟨rfl, HM.out⟩
end Go.Proofs.Ytcncgjiaefjmhaa
