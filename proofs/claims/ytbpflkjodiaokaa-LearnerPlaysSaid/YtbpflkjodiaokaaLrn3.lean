/- Package learner: gaps: the iterator. -/
import Derived.Test.YtbpflkjodiaokaaLrn1
import Derived.Test.YtbpflkjodiaokaaRangeB
namespace Go.Proofs.Ytbpflkjodiaokaa
set_option maxRecDepth 100000
open Go.RowKit Go.Shelf
set_option linter.unusedVariables false
set_option linter.unusedSimpArgs false

attribute [local go_sem] Oper.semAt_some

theorem lgaps_any (w : World) (b : Nat) :
    Calls Try.prog 24 #[.pointer (some ⟨b, 0, none⟩)] w fun e w' => e = .returned (.func (.func 26) #[] #[.pointer (some ⟨w.heap.size, 0, none⟩)]) ∧ w' = w.alloc (.cells #[.pointer (some ⟨b, 0, none⟩)] 25) := by
  go_enter Try.func24, Try.ntmps24
  go_wp2
  go_ret
  exact ⟨rfl, rfl⟩
theorem gapsTo_known {L : List KV} : ∀ {r : Nat}, (∀ m, m < r → (lookL L m).isSome = true) → gapsTo L r = []
  | 0, _ => rfl
  | r + 1, h => by
    rw [gapsTo_succ, if_neg (fun e => by have := h r (by omega); rw [e] at this; cases this)]
    exact gapsTo_known (fun m hm => h m (by omega))
theorem known_top {L : List KV} {r : Nat} (h : ∀ m, m < r → (lookL L m).isSome = true) : r ≤ topL L := by
  cases r with
  | zero => omega
  | succ r =>
    obtain ⟨v, hv⟩ := Option.isSome_iff_exists.1 (h r (by omega))
    exact look_top hv

set_option maxHeartbeats 4000000 in
theorem gaps1_in (lp bx b r : Nat) {L : List KV} {mv : Value} (W : World) (K : Nat → Prop)
    (hB : Blk W bx 25 #[.pointer (some ⟨b, 0, none⟩)]) (hb : Blk W b 53 #[mv, .int .u64 (r : Int), .int .u64 (topL L : Int)]) (hKx : ¬ K bx) (hKb : ¬ K b)
    (hLK : ∀ s : Nat, s < 18446744073709551616 → LookT W L mv s K) (hT : topL L ≤ 18446744073709551615) (hr : nextP L r)
    (J Jx : List Nat → World → Prop) (hJ : ∀ pre A B, J pre A → Mods Nil A B → J pre B) (hJx : ∀ pre A B, Jx pre A → Mods Nil A B → Jx pre B)
    (hY : ∀ (pre : List Nat) (x : Nat) W1, J pre W1 → True → YieldAt Fence.wide 7 Try.prog lp #[.int .u64 (x : Int)] W1 fun e W' => (e = .returned (.bool true) ∧ J (pre ++ [x]) W' ∧ Mods K W1 W') ∨ (e = .returned (.bool false) ∧ Jx (pre ++ [x]) W'))
    (h0 : J [] W) :
    CallsIn Fence.wide 8 Try.prog 26 #[.func (.yield lp) #[] #[], .pointer (some ⟨bx, 0, none⟩)] W fun e W' => (∃ v, e = .returned v) ∧ ∃ xs, (xs = gapsTo L (topL L) ∧ J xs W') ∨ ((∃ s, s ≤ topL L ∧ xs = gapsTo L s) ∧ Jx xs W') := by
  obtain ⟨tp, htp⟩ : ∃ tp, topL L = tp := ⟨_, rfl⟩
  have hrt := known_top hr.1
  rw [htp] at hb hT hrt ⊢
  have HG0 := Lib.hid (gapsTo_known hr.1)
  have HY := Lib.hid hY
  have HJ := Lib.hid hJ
  have HJ0 := Lib.hid h0
  have HLK := Lib.hid hLK
  have HB := Lib.hid hB
  have HBB := Lib.hid hb
  have HT := Lib.hid hT
  have HKX := Lib.hid hKx
  have HKB := Lib.hid hKb
  have a1 := hB.cell 0
  have a2 := hb.cell 1
  simp at a1 a2
  clear hY hJ hJx h0 hLK hB hb hT hKx hKb htp hr
  refine callsIn_of_wp Try.func26 rfl trivial ?_ rfl
  simp only [Try.ntmps26, List.size_toArray, List.length_cons, List.length_nil, Nat.reduceAdd, Nat.reduceSub, Array.replicate_succ, Array.replicate_zero, List.push_toArray, List.append_toArray, List.nil_append, List.cons_append]
  gi_wp2
  gi_loopw [3] (fun i wr => ∃ s : Nat, s ≤ tp ∧ i = .int .u64 (s : Int) ∧ J (gapsTo L s) wr ∧ Mods K W wr) (fun i _ => tp - (intOf i).toNat)
  case atStart => exact ⟨r, hrt, rfl, by rw [HG0.out]; exact HJ0.out, Mods.refl _ _⟩
  case round =>
    obtain ⟨s, hs, rfl, hj, hm⟩ := hrel
    clear a1 a2 HJ0 HG0
    have a1 := (HB.out.mods hm HKX.out).cell 0
    have b1 := HBB.out.mods hm HKB.out
    have a2 := b1.cell 2
    have a0 := b1.cell 0
    simp at a0 a1 a2
    have HM := Lib.hid hm
    have HJP := Lib.hid hj
    clear hm hj b1
    have ht64 := HT.out
    by_cases hlt : s < tp
    · have hltI : (s : Int) < (tp : Int) := by omega
      have hw1 : IntKind.u64.wrap ((s : Int) + 1) = ((s + 1 : Nat) : Int) := by rw [IntKind.wrap_u64]; omega
      obtain ⟨A, n, c, q1, -, -⟩ := HLK.out s (by omega)
      have z := q1 wr HM.out
      have hgs := gapsTo_succ L s
      cases hl : lookL L s with
      | none =>
        rw [hl] at z hgs
        rw [if_pos rfl] at hgs
        have HGS := Lib.hid hgs
        have HKN := Lib.hid (knows_any a0 z)
        clear q1 z hl hgs
        gi_wp2_with (refine ⟨trivial, ?_⟩; gi_at_call 23; refine (callsIn_wide.2 (HKN.out)).mono ?_; rintro e w2 ⟨rfl, rfl⟩; have yy := HY.out _ s _ HJP.out trivial; obtain ⟨fn, tmps, assign, body, hy, hR⟩ := yy; have HR := Lib.hid hR; clear hR)
        refine HR.out.mono ?_
        rintro e W5 (⟨rfl, hj5, m5⟩ | ⟨rfl, hj5⟩)
        · have J5 := Lib.hid hj5
          have M5 := Lib.hid m5
          clear hj5 m5 hy
          gi_wp2
          exact ⟨⟨s + 1, by omega, rfl, by rw [HGS.out]; exact J5.out, HM.out.trans M5.out⟩, by simp [intOf]; omega⟩
        · have J5 := Lib.hid hj5
          clear hj5 hy
          gi_wp2
          refine bodyPost_ret (results_none rfl _ _ _) rfl ?_
          exact ⟨⟨_, rfl⟩, _, .inr ⟨⟨s + 1, by omega, HGS.out.symm⟩, J5.out⟩⟩
      | some v =>
        rw [hl] at z hgs
        rw [if_neg (by simp)] at hgs
        have HGS := Lib.hid hgs
        have HKN := Lib.hid (knows_any a0 z)
        clear q1 z hl hgs
        gi_wp2_with (refine ⟨trivial, ?_⟩; gi_at_call 23; refine (callsIn_wide.2 (HKN.out)).mono ?_; rintro e w2 ⟨rfl, rfl⟩)
        refine ⟨fun _ h => (by cases h), ?_⟩
        gi_wp2
        exact ⟨⟨s + 1, by omega, rfl, by rw [HGS.out]; exact HJP.out, HM.out⟩, by simp [intOf]; omega⟩
    · obtain rfl : s = tp := by omega
      gi_wp2
      refine bodyPost_end (results_none rfl _ _ _) rfl ?_
      exact ⟨⟨_, rfl⟩, _, .inl ⟨rfl, HJP.out⟩⟩
end Go.Proofs.Ytbpflkjodiaokaa
