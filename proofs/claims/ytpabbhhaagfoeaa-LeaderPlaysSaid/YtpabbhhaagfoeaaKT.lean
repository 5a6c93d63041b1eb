/- A region that draws its order, whose last operation waits for all others: reads in any order, two calls, a law. No program. -/
import Derived.Test.YtpabbhhaagfoeaaHW
namespace Go.Proofs.Ytpabbhhaagfoeaa
set_option maxRecDepth 100000
open Go.RowKit
set_option linter.unusedVariables false
set_option linter.unusedSimpArgs false

section
variable {P : Program} {Q : Exit → Act → World → Prop} {S : World → Prop} {k : Nat} {l : List Oper} {listed : Array Bool}
/-- Number i is taken first: it yields its value in every world that meets S. -/
theorem kt_take {a : Act} {w : World} {o : Oper} (i g : Nat) (hi : l[i]? = some o) (hs : Region.noSelect l.toArray = true) (hf : Region.free .any l.toArray listed i = true) (hr : (Region.ready .any l.toArray listed).contains i = true)
    (hw : waitsOn l.toArray k i = true) (hkl : listed.getD k true = false) (hQ : ∀ c a v w, Q (.panic c) (a.put o.dst v) w → Q (.panic c) a w) (hg : Region.wanted o (yielded l.toArray a.tmps) = true) (hS : S w) {v : Value}
    (hv : ∀ w, S w → (execOp a.eval o).run P w = .ok (.value v) w) (h : wpAnyK P .any l.toArray Q S k g (listed.setIfInBounds i true) (a.put o.dst v) w) : wpAnyK P .any l.toArray Q S k (g + 1) listed a w :=
  wpAnyK_first (i := i) (oi := o) (v := v) (by simpa using hi) (Region.noSelect_spec hs) (fun c a w => hQ c a v w) (waitsOn_spec hw) g _ _ _ (Region.free_spec (by simpa using hi) hf) (by simpa using hr) hkl (.inl ⟨hg, hv⟩) hS h
theorem kt_region {id : Nat} {a : Act} {w : World} (n : Nat) (hm : P.follows .mixedOrders = true) (hn : l.length = n) (h : wpAnyK P .any l.toArray Q S k n (Array.replicate n false) a w.drew) : (Code.region id l.toArray true).wp P Q a w := by
  subst hn
  refine wp_region_any hm ?_
  have := wpAny_of_K _ _ _ _ h
  simpa using this
/-- Nothing but number i may come up: a law tells what comes of it. -/
theorem kt_law {a : Act} {w : World} {o : Oper} (i g : Nat) (hi : l[i]? = some o) (hr : Region.ready .any l.toArray listed = [i])
    (h : ∀ K' : Act → World → Prop, (∀ a w, ((listed.setIfInBounds i true).getD k true = false → S w) → wpAnyK P .any l.toArray Q S k g (listed.setIfInBounds i true) a w → K' a w) → if Region.wanted o (yielded l.toArray a.tmps) = true then Oper.wp P o a w K' Q else K' (a.put o.dst undef) w) :
    wpAnyK P .any l.toArray Q S k (g + 1) listed a w := by
  refine ⟨fun h0 => (by rw [hr] at h0; cases h0), fun j hj => ?_⟩
  rw [hr] at hj
  obtain rfl : j = i := by simpa using hj
  exact wpOp_step (by simpa using hi) (fun K' hK => h K' (fun a w h1 h2 => hK a w ⟨h1, h2⟩))
/-- Nothing but number i may come up: it yields its value, and the world becomes another one. -/
theorem kt_makes {a : Act} {w w' : World} {v : Value} {o : Oper} (i g : Nat) (hi : l[i]? = some o) (hr : Region.ready .any l.toArray listed = [i]) (hg : Region.wanted o (yielded l.toArray a.tmps) = true)
    (hv : (execOp a.eval o).run P w = .ok (.value v) w') (hS : S w') (h : wpAnyK P .any l.toArray Q S k g (listed.setIfInBounds i true) (a.put o.dst v) w') : wpAnyK P .any l.toArray Q S k (g + 1) listed a w := by
  refine ⟨fun h0 => (by rw [hr] at h0; cases h0), fun j hj => ?_⟩
  rw [hr] at hj
  obtain rfl : j = i := by simpa using hj
  have hk' : l.toArray[j]? = some o := by simpa using hi
  unfold wpOp
  simp only [hk']
  rw [if_pos hg]
  refine .inl ?_
  unfold Oper.wp
  rw [hv]
  exact ⟨fun _ => hS, h⟩
/-- Nothing but number i may come up: a call. -/
theorem kt_call {a : Act} {w : World} {o : Oper} (i g : Nat) (hi : l[i]? = some o) (hr : Region.ready .any l.toArray listed = [i]) (hg : Region.wanted o (yielded l.toArray a.tmps) = true) (f : FuncId) (args : Array Value) (he : (execOp a.eval o).run P w = .ok (.enter f args) w)
    (h : Calls P f args w fun e w' => ∃ v, e = .returned v ∧ S w' ∧ wpAnyK P .any l.toArray Q S k g (listed.setIfInBounds i true) (a.put o.dst v) w') : wpAnyK P .any l.toArray Q S k (g + 1) listed a w := by
  refine ⟨fun h0 => (by rw [hr] at h0; cases h0), fun j hj => ?_⟩
  rw [hr] at hj
  obtain rfl : j = i := by simpa using hj
  have hk' : l.toArray[j]? = some o := by simpa using hi
  unfold wpOp
  simp only [hk']
  rw [if_pos hg]
  refine .inl ?_
  unfold Oper.wp
  rw [he]
  unfold Oper.upon
  refine h.mono fun e w' ⟨v, h1, h2, h3⟩ => ?_
  subst h1
  exact ⟨fun _ => h2, h3⟩
/-- Two calls may come up, in whatever order; both yield the same in all worlds of C. -/
theorem kt_calls2 {a : Act} {w : World} {o p : Oper} (i j g : Nat) (hi : l[i]? = some o) (hj : l[j]? = some p) (hr : Region.ready .any l.toArray listed = [i, j]) (hri : Region.ready .any l.toArray (listed.setIfInBounds i true) = [j]) (hrj : Region.ready .any l.toArray (listed.setIfInBounds j true) = [i])
    (hgi : o.guard = none) (hgj : p.guard = none) (C : World → Prop) (hCS : ∀ V, C V → S V) (hC : C w) (fi fj : FuncId) (ai aj : Array Value) {vi vj : Value} (hij : i ≠ j) (d e : Tmp) (hdi : o.dst = some d) (hdj : p.dst = some e) (hde : d ≠ e)
    (hei : ∀ V, (execOp a.eval o).run P V = .ok (.enter fi ai) V) (hei' : ∀ V v, (execOp (a.put (some e) v).eval o).run P V = .ok (.enter fi ai) V) (hej : ∀ V, (execOp a.eval p).run P V = .ok (.enter fj aj) V) (hej' : ∀ V v, (execOp (a.put (some d) v).eval p).run P V = .ok (.enter fj aj) V)
    (ci : ∀ V, C V → Calls P fi ai V (fun e w' => e = .returned vi ∧ C w')) (cj : ∀ V, C V → Calls P fj aj V (fun e w' => e = .returned vj ∧ C w'))
    (h : ∀ V, C V → wpAnyK P .any l.toArray Q S k g ((listed.setIfInBounds i true).setIfInBounds j true) ((a.put (some d) vi).put (some e) vj) V) : wpAnyK P .any l.toArray Q S k (g + 1 + 1) listed a w := by
  have hki : l.toArray[i]? = some o := by simpa using hi
  have hkj : l.toArray[j]? = some p := by simpa using hj
  have wi : ∀ x, Region.wanted o x = true := fun x => by simp [Region.wanted, hgi]
  have wj : ∀ x, Region.wanted p x = true := fun x => by simp [Region.wanted, hgj]
  refine ⟨fun h0 => (by rw [hr] at h0; cases h0), fun m hm => ?_⟩
  rw [hr] at hm
  rcases List.mem_cons.1 hm with rfl | hm
  · unfold wpOp
    simp only [hki]
    rw [if_pos (wi _)]
    refine .inl ?_
    unfold Oper.wp
    rw [hei]
    unfold Oper.upon
    refine (ci _ hC).mono fun e1 w1 ⟨h1, h2⟩ => ?_
    subst h1
    refine ⟨fun _ => hCS _ h2, ?_⟩
    rw [hdi]
    refine kt_call j g hj hri (wj _) fj aj (hej' _ _) ((cj _ h2).mono fun e2 w2 ⟨h3, h4⟩ => ⟨vj, h3, hCS _ h4, ?_⟩)
    rw [hdj]
    exact h _ h4
  · obtain rfl : m = j := by simpa using hm
    unfold wpOp
    simp only [hkj]
    rw [if_pos (wj _)]
    refine .inl ?_
    unfold Oper.wp
    rw [hej]
    unfold Oper.upon
    refine (cj _ hC).mono fun e1 w1 ⟨h1, h2⟩ => ?_
    subst h1
    refine ⟨fun _ => hCS _ h2, ?_⟩
    rw [hdj]
    refine kt_call i g hi hrj (wi _) fi ai (hei' _ _) ((ci _ h2).mono fun e2 w2 ⟨h3, h4⟩ => ⟨vi, h3, hCS _ h4, ?_⟩)
    rw [hdi, Array.setIfInBounds_comm _ _ hij.symm]
    have hcomm : (a.put (some e) vj).put (some d) vi = (a.put (some d) vi).put (some e) vj := by
      simp only [Act.put]
      rw [Array.setIfInBounds_comm _ _ hde]
    rw [hcomm]
    exact h _ h4
/-- Nothing but number i may come up: it stores. -/
theorem kt_put {a : Act} {w w' : World} {o : Oper} (i g : Nat) (hi : l[i]? = some o) (hr : Region.ready .any l.toArray listed = [i]) (hg : Region.wanted o (yielded l.toArray a.tmps) = true) (hd : o.dst = none)
    (hv : (execOp a.eval o).run P w = .ok .skip w') (hS : (listed.setIfInBounds i true).getD k true = false → S w') (h : wpAnyK P .any l.toArray Q S k g (listed.setIfInBounds i true) a w') : wpAnyK P .any l.toArray Q S k (g + 1) listed a w := by
  refine ⟨fun h0 => (by rw [hr] at h0; cases h0), fun j hj => ?_⟩
  rw [hr] at hj
  obtain rfl : j = i := by simpa using hj
  have hk' : l.toArray[j]? = some o := by simpa using hi
  unfold wpOp
  simp only [hk']
  rw [if_pos hg]
  refine .inl ?_
  unfold Oper.wp
  rw [hv]
  unfold Oper.upon
  simp only [hd, Act.put]
  exact ⟨hS, h⟩
theorem kt_done {a : Act} {w : World} {g : Nat} (hr : Region.ready .any l.toArray listed = []) (h : Q .normal a w) : wpAnyK P .any l.toArray Q S k g listed a w := by
  cases g with
  | zero => exact ⟨hr, h⟩
  | succ g => exact ⟨fun _ => h, by rw [hr]; simp⟩
end
end Go.Proofs.Ytpabbhhaagfoeaa
