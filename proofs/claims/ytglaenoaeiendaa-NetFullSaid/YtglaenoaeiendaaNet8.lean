/- Package net: the places of a node's packets: the iterator. -/
import Derived.Test.YtglaenoaeiendaaNet7
import Derived.Test.YtglaenoaeiendaaRangeM
namespace Go.Proofs.Ytglaenoaeiendaa
set_option maxRecDepth 100000
open Go.RowKit Go.Shelf
set_option linter.unusedVariables false

attribute [local go_sem] Oper.semAt_some

/-- The places, from i on, of those packets that are for the node. -/
def placesTo (k : Int) : Nat → List Pk → List Nat
  | _, [] => []
  | i, p :: l => (if p.t = k then [i] else []) ++ placesTo k (i + 1) l
theorem placesTo_snoc (k : Int) : ∀ (i : Nat) (l : List Pk) (p : Pk), placesTo k i (l ++ [p]) = placesTo k i l ++ if p.t = k then [i + l.length] else []
  | i, [], p => by simp [placesTo]
  | i, q :: l, p => by
    simp only [List.cons_append, placesTo, placesTo_snoc k (i + 1) l p, List.append_assoc, List.length_cons]
    rw [show i + 1 + l.length = i + (l.length + 1) by omega]
theorem placesTo_le (k : Int) : ∀ (i : Nat) (l : List Pk), (placesTo k i l).length ≤ l.length
  | _, [] => by simp [placesTo]
  | i, p :: l => by
    have := placesTo_le k (i + 1) l
    simp only [placesTo, List.length_append, List.length_cons]
    split <;> simp <;> omega
theorem placesTo_all (k : Int) : ∀ (i : Nat) (l : List Pk), (∀ p ∈ l, p.t = k) → (placesTo k i l).length = l.length
  | _, [], _ => by simp [placesTo]
  | i, p :: l, h => by
    have := placesTo_all k (i + 1) l (fun q hq => h q (List.mem_cons_of_mem _ hq))
    simp only [placesTo, List.length_append, List.length_cons, this]
    rw [if_pos (h p List.mem_cons_self)]
    simp; omega
theorem placesTo_none (k : Int) : ∀ (i : Nat) (l : List Pk), (∀ p ∈ l, p.t ≠ k) → placesTo k i l = []
  | _, [], _ => by simp [placesTo]
  | i, p :: l, h => by
    have := placesTo_none k (i + 1) l (fun q hq => h q (List.mem_cons_of_mem _ hq))
    simp only [placesTo, this]
    rw [if_neg (h p List.mem_cons_self)]
    rfl

theorem to1_any {w : World} {bx : Nat} {k f t : Int} {A : Option Addr} {m c : Nat} {b : Bool} (hc : w.cell? ⟨bx, 0, none⟩ = some (.int .i64 k)) (hx : bx < w.heap.size) (h : (t == k) = b) :
    Calls Try.prog 22 #[.agg #[.int .i64 f, .int .i64 t, .slice A m c], .pointer (some ⟨bx, 0, none⟩)] w fun e w' => e = .returned (.bool b) ∧ w' = w.alloc (.cells #[.int .i64 f, .int .i64 t, .slice A m c] 32) := by
  obtain ⟨d0, d1, d2, d3, d4, d5⟩ := (Blk.new w 32 #[.int .i64 f, .int .i64 t, .slice A m c]).three
  have hc' : (w.alloc (.cells #[.int .i64 f, .int .i64 t, .slice A m c] 32)).cell? ⟨bx, 0, none⟩ = some (.int .i64 k) := (World.cell?_of_block (((Mods.refl Nil w).alloc (.cells #[.int .i64 f, .int .i64 t, .slice A m c] 32)).block bx hx (fun h => h))).trans hc
  clear hc
  go_enter Try.func22, Try.ntmps22
  go_wp2
  go_ret
  exact ⟨rfl, rfl⟩
theorem nplaces_any (w : World) (nb bx : Nat) :
    Calls Try.prog 21 #[.pointer (some ⟨nb, 0, none⟩), .func (.func 22) #[] #[.pointer (some ⟨bx, 0, none⟩)]] w fun e w' =>
      e = .returned (.func (.func 25) #[] #[.pointer (some ⟨w.heap.size, 0, none⟩), .pointer (some ⟨w.heap.size + 1, 0, none⟩)]) ∧
      w' = (w.alloc (.cells #[.pointer (some ⟨nb, 0, none⟩)] 24)).alloc (.cells #[.func (.func 22) #[] #[.pointer (some ⟨bx, 0, none⟩)]] 50) := by
  go_enter Try.func21, Try.ntmps21
  go_wp2
  go_ret
  exact ⟨rfl, rfl⟩

/-- What the iterator reads. -/
structure Reads (w : World) (b1 b2 bx nb : Nat) (k : Int) (A : Option Addr) (n c : Nat) (l : List Pk) : Prop where
  c1 : w.cell? ⟨b1, 0, none⟩ = some (.pointer (some ⟨nb, 0, none⟩))
  c2 : w.cell? ⟨b2, 0, none⟩ = some (.func (.func 22) #[] #[.pointer (some ⟨bx, 0, none⟩)])
  c3 : w.cell? ⟨bx, 0, none⟩ = some (.int .i64 k)
  c4 : w.cell? ⟨nb, 1, none⟩ = some (.slice A n c)
  row : RowOf w A l
  len : l.length = n
/-- Blocks that it doesn't read. -/
def ROff (b1 b2 bx nb : Nat) (A : Option Addr) (i : Nat) : Prop := i ≠ b1 ∧ i ≠ b2 ∧ i ≠ bx ∧ i ≠ nb ∧ A ≠ some ⟨i, 0, none⟩
theorem Reads.mods {w w' : World} {b1 b2 bx nb : Nat} {k : Int} {A : Option Addr} {n c : Nat} {l : List Pk} (h : Reads w b1 b2 bx nb k A n c l) {S : Nat → Prop} (hm : Mods S w w') (hS : ∀ i, S i → i < w.heap.size → ROff b1 b2 bx nb A i) : Reads w' b1 b2 bx nb k A n c l := by
  have e : ∀ (b o : Nat) u, w.cell? ⟨b, o, none⟩ = some u → ¬ S b → w'.cell? ⟨b, o, none⟩ = some u := fun b o u hc hn => (World.cell?_of_block (hm.block b (World.block_lt_of_cell? w _ hc) hn)).trans hc
  have lt : ∀ (b o : Nat) u, w.cell? ⟨b, o, none⟩ = some u → b < w.heap.size := fun b o u hc => World.block_lt_of_cell? w _ hc
  refine ⟨e _ _ _ h.c1 (fun hs => (hS _ hs (lt _ _ _ h.c1)).1 rfl), e _ _ _ h.c2 (fun hs => (hS _ hs (lt _ _ _ h.c2)).2.1 rfl), e _ _ _ h.c3 (fun hs => (hS _ hs (lt _ _ _ h.c3)).2.2.1 rfl), e _ _ _ h.c4 (fun hs => (hS _ hs (lt _ _ _ h.c4)).2.2.2.1 rfl), fun h0 => ?_, h.len⟩
  obtain ⟨g, rfl, hlt, hc⟩ := h.row h0
  exact ⟨g, rfl, Nat.lt_of_lt_of_le hlt hm.size, fun j u hu => e _ _ _ (hc j u hu) (fun hs => (hS _ hs hlt).2.2.2.2 rfl)⟩

set_option maxHeartbeats 4000000 in
theorem places1_in (lp b1 b2 bx nb n c : Nat) (k : Int) (A : Option Addr) (l : List Pk) (W : World) (hr : Reads W b1 b2 bx nb k A n c l) (h4 : n ≤ 4096)
    (K : Nat → Prop) (hK : ∀ i, K i → ROff b1 b2 bx nb A i)
    (J : List Nat → World → Prop) (hJ : ∀ pre A B, J pre A → Mods Nil A B → J pre B)
    (hY : ∀ (pre : List Nat) (x : Nat) W1, J pre W1 → (x < 4096 ∧ pre.length < 4096) → YieldAt Fence.wide 7 Try.prog lp #[.int .i64 (x : Int)] W1 fun e W' => e = .returned (.bool true) ∧ J (pre ++ [x]) W' ∧ Mods K W1 W')
    (h0 : J [] W) :
    CallsIn Fence.wide 8 Try.prog 25 #[.func (.yield lp) #[] #[], .pointer (some ⟨b1, 0, none⟩), .pointer (some ⟨b2, 0, none⟩)] W fun e W' => (∃ v, e = .returned v) ∧ ∃ pre, pre = placesTo k 0 l ∧ J pre W' := by
  have HY := Lib.hid hY
  have HJ := Lib.hid hJ
  have HK := Lib.hid hK
  have HR := Lib.hid hr
  have HJ0 := Lib.hid h0
  have a1 := hr.c1
  have a4 := hr.c4
  clear hY hJ hK hr h0
  refine callsIn_of_wp Try.func25 rfl trivial ?_ rfl
  simp only [Try.ntmps25, List.size_toArray, List.length_cons, List.length_nil, Nat.reduceAdd, Nat.reduceSub, Array.replicate_succ, Array.replicate_zero, List.push_toArray, List.append_toArray, List.nil_append, List.cons_append]
  gi_wp2
  gi_loopw [11] (fun i wr => ∃ j : Nat, j ≤ n ∧ i = .int .i64 j ∧ J (placesTo k 0 (l.take j)) wr ∧ Reads wr b1 b2 bx nb k A n c l) (fun i _ => n - (intOf i).toNat)
  case atStart => exact ⟨0, by omega, rfl, HJ0.out, HR.out⟩
  case round =>
    obtain ⟨j, hj, rfl, hjp, hrd⟩ := hrel
    clear a1 a4 HJ0 HR
    by_cases hlt : j < n
    · have hjI : (j : Int) < (n : Int) := by omega
      have hn4 : (n : Int) ≤ 4096 := by omega
      have hjl : j < l.length := by rw [hrd.len]; exact hlt
      obtain ⟨g, rfl, e0, e1, e2⟩ := hrd.row.at_ (Mods.refl Nil wr) (fun _ _ h => h) hjl
      obtain ⟨q, hq⟩ : ∃ q, l[j] = q := ⟨_, rfl⟩
      have htk : l.take (j + 1) = l.take j ++ [q] := by rw [List.take_succ_eq_append_getElem hjl, hq]
      have hsn := placesTo_snoc k 0 (l.take j) q
      rw [← htk, show (l.take j).length = j by simp; omega, Nat.zero_add] at hsn
      have hle := placesTo_le k 0 (l.take j)
      rw [show (l.take j).length = j by simp; omega] at hle
      rw [hq] at e0 e1 e2
      generalize placesTo k 0 (l.take j) = pre at hjp hsn hle
      obtain ⟨d0, d1, d2, -, -, -⟩ := (Blk.new wr 32 #[.int .i64 q.f, .int .i64 q.t, .slice q.A q.xs.length q.c]).three
      have mA : Mods Nil wr (wr.alloc (.cells #[.int .i64 q.f, .int .i64 q.t, .slice q.A q.xs.length q.c] 32)) := (Mods.refl _ _).alloc _
      have mB := mA.alloc (.cells #[.int .i64 q.f, .int .i64 q.t, .slice q.A q.xs.length q.c] 32)
      have rA := hrd.mods mA (fun _ h => h.elim)
      have rB := hrd.mods mB (fun _ h => h.elim)
      have a2 := rA.c2
      have hto : ∀ b, (q.t == k) = b → Calls Try.prog 22 #[.agg #[.int .i64 q.f, .int .i64 q.t, .slice q.A q.xs.length q.c], .pointer (some ⟨bx, 0, none⟩)] (wr.alloc (.cells #[.int .i64 q.f, .int .i64 q.t, .slice q.A q.xs.length q.c] 32)) fun e w' => e = .returned (.bool b) ∧ w' = (wr.alloc (.cells #[.int .i64 q.f, .int .i64 q.t, .slice q.A q.xs.length q.c] 32)).alloc (.cells #[.int .i64 q.f, .int .i64 q.t, .slice q.A q.xs.length q.c] 32) :=
        fun b hb => to1_any rA.c3 (World.block_lt_of_cell? _ _ rA.c3) hb
      have jB := HJ.out _ _ _ hjp mB
      have RB := Lib.hid rB
      have JB := Lib.hid jB
      have HLE := Lib.hid hle
      by_cases ht : q.t = k
      · have HTO := Lib.hid (hto true (by simp [ht]))
        rw [if_pos ht] at hsn
        have HSN := Lib.hid hsn
        clear hjp hrd hjl hq htk hsn mA mB rA rB hto jB ht hle
        gi_wp2_with (refine ⟨trivial, ?_⟩; gi_at_call 22; refine (callsIn_wide.2 (HTO.out)).mono ?_; rintro e w2 ⟨rfl, rfl⟩; have yy := HY.out pre j _ JB.out ⟨by omega, by have := HLE.out; omega⟩; obtain ⟨fn, tmps, assign, body, hy, hR⟩ := yy; have HR := Lib.hid hR; clear hR)
        refine HR.out.mono ?_
        rintro e W5 ⟨rfl, hj5, m5⟩
        have R5 := Lib.hid (RB.out.mods m5 (fun i hi _ => HK.out i hi))
        have J5 := Lib.hid hj5
        clear hj5 m5 hy
        gi_wp2
        exact ⟨⟨j + 1, by omega, by go_num, by rw [HSN.out]; exact J5.out, R5.out⟩, by simp [intOf]; omega⟩
      · have HTO := Lib.hid (hto false (by simp [ht]))
        rw [if_neg ht, List.append_nil] at hsn
        have HSN := Lib.hid hsn
        clear hjp hrd hjl hq htk hsn mA mB rA rB hto jB ht hle
        gi_wp2_with (refine ⟨trivial, ?_⟩; gi_at_call 22; refine (callsIn_wide.2 (HTO.out)).mono ?_; rintro e w2 ⟨rfl, rfl⟩)
        refine ⟨fun _ h => (by cases h), ?_⟩
        gi_wp2
        exact ⟨⟨j + 1, by omega, by go_num, by rw [HSN.out]; exact JB.out, RB.out⟩, by simp [intOf]; omega⟩
    · obtain rfl : n = j := by omega
      rw [List.take_of_length_le (show l.length ≤ n by rw [hrd.len]; exact Nat.le_refl _)] at hjp
      have HJP := Lib.hid hjp
      clear hjp hrd
      gi_wp2
      refine bodyPost_end (results_none rfl _ _ _) rfl ?_
      exact ⟨⟨_, rfl⟩, _, rfl, HJP.out⟩
end Go.Proofs.Ytglaenoaeiendaa
