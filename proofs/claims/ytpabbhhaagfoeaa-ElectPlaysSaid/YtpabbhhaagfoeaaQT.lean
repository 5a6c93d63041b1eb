/- A region that draws its order, in stages: operations that only read and callees that only lay new blocks are walked once, in the order of the text, as far as all that follows waits for them; then a call; then a chain. No program. -/
import Derived.Test.YtpabbhhaagfoeaaGQ
import Derived.StillTail
namespace Go.Proofs.Ytpabbhhaagfoeaa
set_option maxRecDepth 100000
open Go.RowKit
set_option linter.unusedVariables false

/-- Those ahead of k have come up, no other one. -/
def upto (ops : Array Oper) (k : Nat) : Array Bool := ((List.range ops.size).map fun i => decide (i < k)).toArray
def qtLow (ops : Array Oper) : Bool := (List.range ops.size).all fun j => match ops[j]? with
  | some oj => oj.after.all fun e => !Region.binds .any e || decide (e.on < j)
  | none => true
def stageB (ops : Array Oper) (k n : Nat) : Bool :=
  Region.noSelect ops && decide (n < ops.size) && qtLow ops &&
  ((List.range n).all fun i => decide (i < k) || (List.range (n + 1)).any fun j => decide (i < j) && Region.waitsFor .any ops j i) &&
  ((List.range ops.size).all fun t => decide (t ≤ n) || (List.range t).any fun s => decide (n ≤ s) && Region.waitsFor .any ops t s) &&
  ((List.range n).all fun i => decide (i < k) || ((Region.ready .any ops (upto ops i)).contains i && Region.free .any ops (upto ops i) i))
section
variable {P : Program} {ops : Array Oper} {C : World → Prop} {k n : Nat}
theorem upto_size : (upto ops k).size = ops.size := by simp [upto]
theorem upto_get {j : Nat} (h : j < ops.size) (b : Bool) : (upto ops k).getD j b = decide (j < k) := by
  simp [upto, h]
theorem upto_zero : upto ops 0 = Array.replicate ops.size false := by
  apply Array.ext
  · simp [upto]
  · intro i h1 h2
    simp [upto]
theorem upto_set (h : k < ops.size) : (upto ops k).setIfInBounds k true = upto ops (k + 1) := by
  apply Array.ext
  · simp [upto]
  · intro i h1 h2
    rw [Array.getElem_setIfInBounds]
    · simp only [upto, List.getElem_toArray, List.getElem_map, List.getElem_range]
      by_cases e : k = i
      · subst e; simp
      · rw [if_neg e]
        simp only [decide_eq_decide]
        omega
    · simpa using h1
theorem low_spec (h : qtLow ops = true) {j : Nat} {oj : Oper} (hj : ops[j]? = some oj) : ∀ e ∈ oj.after, Region.binds .any e = true → e.on < j := by
  intro e he hb
  have hlt : j < ops.size := (Array.getElem?_eq_some_iff.1 hj).1
  unfold qtLow at h
  have h1 := List.all_eq_true.1 h j (List.mem_range.2 hlt)
  rw [hj] at h1
  have h2 := Array.all_eq_true_iff_forall_mem.1 h1 e he
  simpa [hb] using h2
theorem upto_inv (h : qtLow ops = true) (hk : k ≤ n) : HeadInv .any ops n (upto ops k) := by
  refine ⟨upto_size, fun j oj hj hl e he hb => ?_, fun t ht ht' => ?_⟩
  · have hlt : j < ops.size := (Array.getElem?_eq_some_iff.1 hj).1
    have hon := low_spec h hj e he hb
    rw [upto_get hlt] at hl
    rw [upto_get (by omega)]
    simp at hl ⊢
    omega
  · rw [upto_get ht']
    simp
    omega
structure Stage (ops : Array Oper) (k n : Nat) : Prop where
  sel : Region.noSelect ops = true
  lt : n < ops.size
  low : qtLow ops = true
  sink : ∀ i, k ≤ i → i < n → ∃ j, i < j ∧ j ≤ n ∧ Region.waitsFor .any ops j i = true
  tree : ∀ t, n < t → t < ops.size → ∃ s, n ≤ s ∧ s < t ∧ Region.waitsFor .any ops t s = true
  lex : ∀ i, k ≤ i → i < n → i ∈ Region.ready .any ops (upto ops i) ∧ Region.free .any ops (upto ops i) i = true
theorem stage_of (h : stageB ops k n = true) : Stage ops k n := by
  unfold stageB at h
  simp only [Bool.and_eq_true, decide_eq_true_eq, List.all_eq_true, List.mem_range, Bool.or_eq_true, List.any_eq_true] at h
  obtain ⟨⟨⟨⟨⟨h1, h2⟩, h3⟩, h4⟩, h5⟩, h6⟩ := h
  refine ⟨h1, h2, h3, fun i hk hi => ?_, fun t ht htl => ?_, fun i hk hi => ?_⟩
  · rcases h4 i hi with h | ⟨j, hj, h7, h8⟩
    · omega
    · exact ⟨j, h7, by omega, h8⟩
  · rcases h5 t htl with h | ⟨s, hs, h7, h8⟩
    · omega
    · exact ⟨s, h7, hs, h8⟩
  · rcases h6 i hi with h | ⟨h7, h8⟩
    · omega
    · exact ⟨by simpa using h7, h8⟩
theorem stage_waits (S : Stage ops k n) {listed : Array Bool} (inv : HeadInv .any ops n listed) :
    ∀ (d i : Nat), n - i = d → k ≤ i → i < n → listed.getD i true = false → ∀ t, n ≤ t → t ∉ Region.ready .any ops listed := by
  intro d
  induction d using Nat.strongRecOn with
  | _ d ih =>
    intro i hd hki hi hun t ht hr
    obtain ⟨_, ot, hot, hall⟩ := mem_ready.1 hr
    have htlt : t < ops.size := (Array.getElem?_eq_some_iff.1 hot).1
    by_cases htn : t = n
    · subst htn
      obtain ⟨j, hj1, hj2, hw⟩ := S.sink i hki hi
      obtain ⟨oj, hoj, e, he, hb, hon⟩ := Region.waitsFor_spec hw
      by_cases hjt : j = t
      · subst hjt
        have : oj = ot := Option.some.inj (hoj.symm.trans hot)
        subst this
        have h2 := hall e he hb
        rw [hon, getD_both hun] at h2
        cases h2
      · cases hl : listed.getD j false with
        | true =>
          have h2 := inv.closed j oj hoj hl e he hb
          rw [hon, getD_both hun] at h2
          cases h2
        | false =>
          have hjs : j < listed.size := by rw [inv.size]; omega
          exact ih (t - j) (by omega) j rfl (by omega) (by omega) (getD_in hjs hl) t (Nat.le_refl _) hr
    · obtain ⟨s, h1, h2, hw⟩ := S.tree t (by omega) htlt
      obtain ⟨o', ho', e, he, hb, hon⟩ := Region.waitsFor_spec hw
      have : o' = ot := Option.some.inj (ho'.symm.trans hot)
      subst this
      have h3 := hall e he hb
      rw [hon, getD_both (inv.tail s h1 (by omega))] at h3
      cases h3
/-- Whatever order is picked, the ones ahead of n come first. -/
def StageQ (P : Program) (ops : Array Oper) (C : World → Prop) (n : Nat) (L : Array Bool → Act → Prop) : Nat → Array Bool → Act → Prop
  | 0, listed, a => L listed a
  | f + 1, listed, a => Region.ready .any ops listed ≠ [] ∧ ∀ i ∈ Region.ready .any ops listed, i < n ∧ qOp P ops C i (StageQ P ops C n L f (listed.setIfInBounds i true)) a
theorem stage_sound {g : Nat} {L : Array Bool → Act → Prop} {Q : Exit → Act → World → Prop} (hL : ∀ listed a V, C V → L listed a → wpAny P .any ops Q g listed a V) :
    ∀ (f : Nat) (listed : Array Bool) (a : Act) (V : World), C V → StageQ P ops C n L f listed a → wpAny P .any ops Q (f + g) listed a V
  | 0, listed, a, V, hV, h => by rw [Nat.zero_add]; exact hL _ _ _ hV h
  | f + 1, listed, a, V, hV, h => by
    rw [show f + 1 + g = (f + g) + 1 by omega]
    exact ⟨fun h0 => absurd h0 h.1, fun i hi => wpOp_of_qOp hV (fun a' V' hV' h' => stage_sound hL f _ a' V' hV' h') (h.2 i hi).2⟩
theorem stage_first {i : Nat} {oi : Oper} {v : Value} {L : Array Bool → Act → Prop} (S : Stage ops k n) (hi : ops[i]? = some oi) (hki : k ≤ i) (hin : i < n)
    (hdone : ∀ listed a, L listed a → ∀ j ∈ Region.ready .any ops listed, n ≤ j) :
    ∀ (f : Nat) (listed : Array Bool) (a : Act), HeadInv .any ops n listed →
      (∀ j oj, ops[j]? = some oj → j ≠ i → listed.getD j true = false → (∀ e ∈ oj.after, Region.binds .any e = true → e.on ≠ i) → oi.apart ops oj = true) →
      i ∈ Region.ready .any ops listed → YieldsIn P ops C oi v a →
      StageQ P ops C n L f (listed.setIfInBounds i true) (a.put oi.dst v) → StageQ P ops C n L (f + 1) listed a := by
  have hsel := Region.noSelect_spec S.sel
  intro f
  induction f with
  | zero =>
    intro listed a inv _ hr hy H
    have hun := (mem_ready.1 hr).1
    refine ⟨fun h => (by rw [h] at hr; cases hr), fun j hj => ?_⟩
    have hjn : j < n := by
      rcases Nat.lt_or_ge j n with h | h
      · exact h
      · exact absurd hj (stage_waits S inv _ i rfl hki hin hun j h)
    refine ⟨hjn, ?_⟩
    by_cases hji : j = i
    · subst hji; exact hy.qOp hi H
    · have := hdone _ _ H j (ready_mono hj hji)
      omega
  | succ f ih =>
    intro listed a inv hfree hr hy H
    have hun := (mem_ready.1 hr).1
    refine ⟨fun h => (by rw [h] at hr; cases hr), fun j hj => ?_⟩
    have hjn : j < n := by
      rcases Nat.lt_or_ge j n with h | h
      · exact h
      · exact absurd hj (stage_waits S inv _ i rfl hki hin hun j h)
    refine ⟨hjn, ?_⟩
    by_cases hji : j = i
    · subst hji; exact hy.qOp hi H
    · have h1 := (H.2 j (ready_mono hj hji)).2
      obtain ⟨hjun, oj, hoj, hall⟩ := mem_ready.1 hj
      have hnot : ∀ e ∈ oj.after, Region.binds .any e = true → e.on ≠ i := fun e he hb heq => by
        have h1 := hall e he hb
        rw [heq, getD_both hun] at h1
        cases h1
      have h2 := qOp_put hoj (hfree j oj hoj hji hjun hnot) (fun cs b => hsel i oi cs b hi) (fun cs b => hsel j oj cs b hoj) hy h1
      have hfree' : ∀ k ok, ops[k]? = some ok → k ≠ i → (listed.setIfInBounds j true).getD k true = false →
          (∀ e ∈ ok.after, Region.binds .any e = true → e.on ≠ i) → oi.apart ops ok = true := fun k ok hk hki hun hno => by
        refine hfree k ok hk hki ?_ hno
        by_cases hjk : j = k
        · subst hjk; exact hjun
        · rw [getD_set_ne true hjk] at hun; exact hun
      refine qOp_mono (fun a' h3 => ih (listed.setIfInBounds j true) a' (inv.set hj hjn) hfree' (ready_mono hr (Ne.symm hji)) h3.1 ?_) h2
      rw [Array.setIfInBounds_comm _ _ hji]
      exact h3.2
theorem stage_lex {Lq : Act → Prop} (S : Stage ops k n) :
    ∀ (l : List Oper) (m : Nat) (a : Act), (∀ j, j < l.length → l[j]? = ops[m + j]?) → k ≤ m → m + l.length = n → wpQuiet P ops C Lq l a →
    StageQ P ops C n (fun listed a' => listed = upto ops n ∧ Lq a') l.length (upto ops m) a
  | [], m, a, _, _, hm, h => by
    have : m = n := by simpa using hm
    subst this
    exact ⟨rfl, h⟩
  | o :: l, m, a, hl, hkm, hm, h => by
    have h0 : ops[m]? = some o := by simpa using (hl 0 (by simp)).symm
    have hmn : m < n := by simp only [List.length_cons] at hm; omega
    obtain ⟨hr, hf⟩ := S.lex m hkm hmn
    have hst : qOp P ops C m (wpQuiet P ops C Lq l) a := by unfold qOp; simp only [h0]; exact h
    obtain ⟨v, hy, hK⟩ := yieldsIn_of_qOp h0 hst
    refine stage_first S h0 hkm hmn (fun listed' a' hL => ?_) l.length (upto ops m) a (upto_inv S.low (by omega)) (Region.free_spec h0 hf) hr hy ?_
    · intro j hj
      rw [hL.1] at hj
      have hj1 := (mem_ready.1 hj).1
      obtain ⟨_, oj, hoj, _⟩ := mem_ready.1 hj
      rw [upto_get (Array.getElem?_eq_some_iff.1 hoj).1] at hj1
      simpa using hj1
    · rw [upto_set (by have := S.lt; omega)]
      exact stage_lex S l (m + 1) _ (fun j hj => by have := hl (j + 1) (by simp; omega); simpa [Nat.add_assoc, Nat.add_comm 1 j] using this) (by omega) (by simp only [List.length_cons] at hm; omega) hK
/-- A stage of operations that only read. -/
theorem qt_quiet {l : List Oper} {Q : Exit → Act → World → Prop} {a : Act} {w : World} (C : World → Prop) (k f g : Nat) (hB : stageB l.toArray k (k + f) = true) (hC : C w)
    (h : wpQuiet P l.toArray C (fun a' => ∀ V, C V → wpAny P .any l.toArray Q g (upto l.toArray (k + f)) a' V) ((l.drop k).take f) a) : wpAny P .any l.toArray Q (f + g) (upto l.toArray k) a w := by
  have S := stage_of hB
  have hlt := S.lt
  have hl : ((l.drop k).take f).length = f := by
    simp only [List.length_take, List.length_drop]
    have : l.toArray.size = l.length := by simp
    omega
  have H := stage_lex (P := P) (C := C) S ((l.drop k).take f) k a (fun j hj => by
    rw [hl] at hj
    simp [List.getElem?_drop, hj]) (Nat.le_refl _) (by rw [hl]) h
  rw [hl] at H
  exact stage_sound (fun listed a' V hV hL => by rw [hL.1]; exact hL.2 V hV) f _ _ _ hC H
/-- One call. -/
theorem qt_call {Q : Exit → Act → World → Prop} {a : Act} {w : World} (k g : Nat) (hr : Region.ready .any ops (upto ops k) = [k]) (o : Oper) (ho : ops[k]? = some o) (hg : Region.wanted o (yielded ops a.tmps) = true) (f : FuncId) (args : Array Value) (he : (execOp a.eval o).run P w = .ok (.enter f args) w)
    (h : Calls P f args w fun e w' => ∃ v, e = .returned v ∧ wpAny P .any ops Q g (upto ops (k + 1)) (a.put o.dst v) w') : wpAny P .any ops Q (g + 1) (upto ops k) a w := by
  have hlt : k < ops.size := (Array.getElem?_eq_some_iff.1 ho).1
  refine ⟨fun h0 => (by rw [hr] at h0; cases h0), fun i hi => ?_⟩
  rw [hr] at hi
  obtain rfl : i = k := by simpa using hi
  unfold wpOp
  simp only [ho]
  rw [if_pos hg]
  refine .inl ?_
  unfold Oper.wp
  rw [he, upto_set hlt]
  unfold Oper.upon
  refine h.mono fun e w' ⟨v, h1, h2⟩ => ?_
  subst h1
  exact h2
/-- What is left, one after the other. -/
theorem qt_list {l : List Oper} {Q : Exit → Act → World → Prop} {a : Act} {w : World} (k g : Nat) (hg : k + g = l.length) (hB : Region.seqB .any l.toArray g k (upto l.toArray k) = true) (h : wpList P l.toArray Q (l.drop k) a w) : wpAny P .any l.toArray Q g (upto l.toArray k) a w := by
  have hd : (l.drop k).length = g := by simp; omega
  have := wpAny_of_seq (P := P) (md := .any) (ops := l.toArray) (Q' := Q) (l.drop k) k (upto l.toArray k) a w (fun j => by simp [List.getElem?_drop]) (by rw [hd]; exact hB) h
  rwa [hd] at this
theorem qt_region {id : Nat} {l : List Oper} {Q : Exit → Act → World → Prop} {a : Act} {w : World} (n : Nat) (hm : P.follows .mixedOrders = true) (hn : l.length = n) (h : wpAny P .any l.toArray Q n (upto l.toArray 0) a w.drew) : (Code.region id l.toArray true).wp P Q a w := by
  refine wp_region_any hm ?_
  have : l.toArray.size = n := by simpa using hn
  rw [this]
  rw [upto_zero, this] at h
  exact h
/-- An operation that reads no memory is taken ahead of all that it doesn't bear on. -/
theorem qt_take {l : List Oper} {Q : Exit → Act → World → Prop} {a : Act} {w : World} {v : Value} {o : Oper} (k g : Nat) (hk : l[k]? = some o) (hs : Region.noSelect l.toArray = true) (hf : Region.free .any l.toArray (upto l.toArray k) k = true)
    (hr : (Region.ready .any l.toArray (upto l.toArray k)).contains k = true) (hQ : ∀ c a w, Q (.panic c) (a.put o.dst v) w → Q (.panic c) a w) (hg : Region.wanted o (yielded l.toArray a.tmps) = true) (hv : ∀ w, (execOp a.eval o).run P w = .ok (.value v) w)
    (h : wpAny P .any l.toArray Q g (upto l.toArray (k + 1)) (a.put o.dst v) w) : wpAny P .any l.toArray Q (g + 1) (upto l.toArray k) a w := by
  have hlt : k < l.toArray.size := by
    have := (List.getElem?_eq_some_iff.1 hk).1
    simpa using this
  exact wpAny_take (i := k) (oi := o) (v := v) (by simpa using hk) hs hf hr hQ (.inl ⟨hg, hv⟩) (by rw [upto_set hlt]; exact h)
end
end Go.Proofs.Ytpabbhhaagfoeaa
