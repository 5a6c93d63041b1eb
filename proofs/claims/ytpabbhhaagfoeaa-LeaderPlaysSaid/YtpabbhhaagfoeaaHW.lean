/- A region that draws its order: operations that read, then a new block that is filled, walked once. No program. -/
import Derived.Test.YtpabbhhaagfoeaaQK
import Derived.Test.YtpabbhhaagfoeaaMemX

import Derived.OrdersHeld
namespace Go.Proofs.Ytpabbhhaagfoeaa
set_option maxRecDepth 100000
open Go.RowKit
set_option linter.unusedVariables false
set_option linter.unusedSimpArgs false

section
variable {P : Program} {ops : Array Oper} {Q : Exit → Act → World → Prop} {S : World → Prop}
/-- Operations that yield the same in every world that meets S, one by one. -/
def wpReads (P : Program) (ops : Array Oper) (S : World → Prop) (K : Act → Prop) : List Oper → Act → Prop
  | [], a => K a
  | o :: rest, a => ∃ v, YieldsIf P ops S o v a ∧ wpReads P ops S K rest (a.put o.dst v)
def readsB (ops : Array Oper) (m f : Nat) : Bool :=
  Region.noSelect ops && decide (m + f ≤ ops.size) && (List.range f).all fun i => (Region.ready .any ops (upto ops (m + i))).contains (m + i) && Region.free .any ops (upto ops (m + i)) (m + i)
theorem hw_nil {K : Act → Prop} {a : Act} (h : K a) : wpReads P ops S K [] a := h
theorem hw_op {K : Act → Prop} {a : Act} {o : Oper} {rest : List Oper} (hw : Region.wanted o (yielded ops a.tmps) = true) {v : Value} (hv : ∀ w, S w → (execOp a.eval o).run P w = .ok (.value v) w) (h : wpReads P ops S K rest (a.put o.dst v)) : wpReads P ops S K (o :: rest) a :=
  ⟨v, .inl ⟨hw, hv⟩, h⟩
theorem hw_skip {K : Act → Prop} {a : Act} {o : Oper} {rest : List Oper} (hw : Region.wanted o (yielded ops a.tmps) = false) (h : wpReads P ops S K rest (a.put o.dst undef)) : wpReads P ops S K (o :: rest) a :=
  ⟨undef, .inr ⟨hw, rfl⟩, h⟩
theorem hw_region {id : Nat} {l : List Oper} {a : Act} {w : World} (n : Nat) (hm : P.follows .mixedOrders = true) (hn : l.length = n) (h : wpAnyH P .any l.toArray Q S n (upto l.toArray 0) a w.drew) : (Code.region id l.toArray true).wp P Q a w :=
  qt_region n hm hn (wpAny_of_held _ _ _ _ h)
theorem hw_lex {l : List Oper} {w : World} (hsel : Region.noSelect l.toArray = true) (hQ : ∀ c (a : Act) (d : Tmp) v w, Q (.panic c) (a.put (some d) v) w → Q (.panic c) a w) (hS : S w) {g n : Nat} :
    ∀ (r : List Oper) (m : Nat) (a : Act), (∀ j, j < r.length → r[j]? = l[m + j]?) → m + r.length = n → n ≤ l.length → (∀ i, m ≤ i → i < n → (Region.ready .any l.toArray (upto l.toArray i)).contains i = true ∧ Region.free .any l.toArray (upto l.toArray i) i = true) →
      wpReads P l.toArray S (fun a' => wpAnyH P .any l.toArray Q S g (upto l.toArray n) a' w) r a → wpAnyH P .any l.toArray Q S (r.length + g) (upto l.toArray m) a w
  | [], m, a, _, hm, _, _, h => by
    have : m = n := by simpa using hm
    subst this
    simpa [wpReads] using h
  | o :: r, m, a, hl, hm, hn, hB, ⟨v, hy, h⟩ => by
    have h0 : l[m]? = some o := by simpa using (hl 0 (by simp)).symm
    have hmn : m < n := by simp only [List.length_cons] at hm; omega
    obtain ⟨h1, h2⟩ := hB m (Nat.le_refl _) hmn
    rw [show (o :: r).length + g = (r.length + g) + 1 by simp only [List.length_cons]; omega]
    refine wpAnyH_take (i := m) (oi := o) (v := v) (by simpa using h0) hsel h2 h1 (fun c a w h => by cases hd : o.dst with
      | none => rw [hd] at h; exact h
      | some d => rw [hd] at h; exact hQ c a d _ w h) hy hS ?_
    rw [upto_set (by simpa using (show m < l.length by omega))]
    exact hw_lex hsel hQ hS r (m + 1) _ (fun j hj => by have := hl (j + 1) (by simp; omega); simpa [Nat.add_assoc, Nat.add_comm 1 j] using this) (by simp only [List.length_cons] at hm; omega) hn (fun i hi hin => hB i (by omega) hin) h
/-- So many operations, from number m on, that only read. -/
theorem hw_reads {l : List Oper} {a : Act} {w : World} (m f g : Nat) (hB : readsB l.toArray m f = true) (hQ : ∀ c (a : Act) (d : Tmp) v w, Q (.panic c) (a.put (some d) v) w → Q (.panic c) a w) (hS : S w)
    (h : wpReads P l.toArray S (fun a' => wpAnyH P .any l.toArray Q S g (upto l.toArray (m + f)) a' w) ((l.drop m).take f) a) : wpAnyH P .any l.toArray Q S (f + g) (upto l.toArray m) a w := by
  unfold readsB at hB
  simp only [Bool.and_eq_true, decide_eq_true_eq, List.all_eq_true, List.mem_range] at hB
  obtain ⟨⟨h1, h2⟩, h3⟩ := hB
  have hlen : l.toArray.size = l.length := by simp
  rw [hlen] at h2
  have hl : ((l.drop m).take f).length = f := by
    simp only [List.length_take, List.length_drop]; omega
  have := hw_lex (P := P) (Q := Q) (S := S) (g := g) (n := m + f) h1 hQ hS ((l.drop m).take f) m a (fun j hj => by
    rw [hl] at hj
    simp [List.getElem?_drop, hj]) (by rw [hl]) h2 (fun i hi hin => by
      have := h3 (i - m) (by omega)
      rwa [show m + (i - m) = i by omega] at this) h
  rwa [hl] at this
theorem hw_done {a : Act} {w : World} {n g : Nat} (hr : Region.ready .any ops (upto ops n) = []) (h : Q .normal a w) : wpAnyH P .any ops Q S g (upto ops n) a w := wpAnyH_done hr h g
/-- Nothing but number m may come up. -/
theorem hw_one {l : List Oper} {a : Act} {w : World} {o : Oper} (m g : Nat) (hk : l[m]? = some o) (hr : Region.ready .any l.toArray (upto l.toArray m) = [m]) (hg : Region.wanted o (yielded l.toArray a.tmps) = true) {v : Value} {w' : World}
    (hv : (execOp a.eval o).run P w = .ok (.value v) w') (hS : S w') (h : wpAnyH P .any l.toArray Q S g (upto l.toArray (m + 1)) (a.put o.dst v) w') : wpAnyH P .any l.toArray Q S (g + 1) (upto l.toArray m) a w := by
  have hlt : m < l.toArray.size := by
    have := (List.getElem?_eq_some_iff.1 hk).1
    simpa using this
  refine wpAnyH_all hr (by simp) (fun i hi => ?_)
  obtain rfl : i = m := by simpa using hi
  have hk' : l.toArray[i]? = some o := by simpa using hk
  unfold wpOp
  simp only [hk']
  rw [if_pos hg]
  refine .inl ?_
  unfold Oper.wp
  rw [hv, upto_set hlt]
  exact ⟨hS, h⟩
theorem hw_put {l : List Oper} {a : Act} {w : World} {o : Oper} (m g : Nat) (hk : l[m]? = some o) (hr : Region.ready .any l.toArray (upto l.toArray m) = [m]) (hg : Region.wanted o (yielded l.toArray a.tmps) = true) {w' : World} (hd : o.dst = none)
    (hv : (execOp a.eval o).run P w = .ok .skip w') (hS : S w') (h : wpAnyH P .any l.toArray Q S g (upto l.toArray (m + 1)) a w') : wpAnyH P .any l.toArray Q S (g + 1) (upto l.toArray m) a w := by
  have hlt : m < l.toArray.size := by
    have := (List.getElem?_eq_some_iff.1 hk).1
    simpa using this
  refine wpAnyH_all hr (by simp) (fun i hi => ?_)
  obtain rfl : i = m := by simpa using hi
  have hk' : l.toArray[i]? = some o := by simpa using hk
  unfold wpOp
  simp only [hk']
  rw [if_pos hg]
  refine .inl ?_
  unfold Oper.wp
  rw [hv, upto_set hlt]
  unfold Oper.upon
  simp only [hd, Act.put]
  exact ⟨hS, h⟩
/-- Nothing but number m may come up: a call. -/
theorem hw_call {l : List Oper} {a : Act} {w : World} {o : Oper} (m g : Nat) (hk : l[m]? = some o) (hr : Region.ready .any l.toArray (upto l.toArray m) = [m]) (hg : Region.wanted o (yielded l.toArray a.tmps) = true) (f : FuncId) (args : Array Value) (he : (execOp a.eval o).run P w = .ok (.enter f args) w)
    (h : Calls P f args w fun e w' => ∃ v, e = .returned v ∧ S w' ∧ wpAnyH P .any l.toArray Q S g (upto l.toArray (m + 1)) (a.put o.dst v) w') : wpAnyH P .any l.toArray Q S (g + 1) (upto l.toArray m) a w := by
  have hlt : m < l.toArray.size := by
    have := (List.getElem?_eq_some_iff.1 hk).1
    simpa using this
  refine wpAnyH_all hr (by simp) (fun i hi => ?_)
  obtain rfl : i = m := by simpa using hi
  have hk' : l.toArray[i]? = some o := by simpa using hk
  unfold wpOp
  simp only [hk']
  rw [if_pos hg]
  refine .inl ?_
  unfold Oper.wp
  rw [he]
  unfold Oper.upon
  refine h.mono fun e w' ⟨v, h1, h2, h3⟩ => ?_
  subst h1
  rw [upto_set hlt]
  exact ⟨h2, h3⟩
/-- A new block that is filled with a struct. -/
theorem hw_new {l : List Oper} {a : Act} {w W0 : World} {o1 o2 : Oper} {d s : Tmp} {t : TypeId} {zs cs : Array Value} (m g : Nat) (hk1 : l[m]? = some o1) (hk2 : l[m + 1]? = some o2) (hr1 : Region.ready .any l.toArray (upto l.toArray m) = [m]) (hr2 : Region.ready .any l.toArray (upto l.toArray (m + 1)) = [m + 1])
    (ho1 : o1.op = .alloc t) (hd1 : o1.dst = some d) (ho2 : o2.op = .store t (.tmp d) (.tmp s)) (hd2 : o2.dst = none) (hg1 : o1.guard = none) (hg2 : o2.guard = none) (hds : d ≠ s) (hdl : d < a.tmps.size)
    (he : a.eval (.tmp s) = .agg cs) (hz : (zeroValue t).run P w = .ok (.agg zs) w) (hzc : (Value.agg zs).cells = zs) (hsz : cs.size = zs.size) (h1 : cs.all (·.oneCell') = true) (hi : (P.info? t).map (·.size) = some cs.size) (hc : (Value.agg cs).cells = cs)
    (hM : Mods Nil W0 w) (h : ∀ W, Blk W w.heap.size t cs → Mods Nil w W → W.heap.size = w.heap.size + 1 → wpAnyH P .any l.toArray Q (fun V => Mods Nil W0 V) g (upto l.toArray (m + 2)) (a.put (some d) (.pointer (some ⟨w.heap.size, 0, none⟩))) W) :
    wpAnyH P .any l.toArray Q (fun V => Mods Nil W0 V) (g + 2) (upto l.toArray m) a w := by
  have hlt1 : m < l.toArray.size := by
    have := (List.getElem?_eq_some_iff.1 hk1).1
    simpa using this
  have hlt2 : m + 1 < l.toArray.size := by
    have := (List.getElem?_eq_some_iff.1 hk2).1
    simpa using this
  have ha : (execOp a.eval o1).run P w = .ok (.value (.pointer (some ⟨w.heap.size, 0, none⟩))) (w.alloc (.cells zs t)) := by
    unfold execOp
    simp [ho1, Instr.alloc, newVar, newRow, hz, hzc, Sem.run_bind, Result.andThen]
  have hB := Blk.new w t zs
  refine hw_one m (g + 1) hk1 hr1 (by simp [Region.wanted, hg1]) ha (hM.trans ((Mods.refl Nil w).alloc _)) ?_
  rw [hd1]
  have hst := run_storeVar_blk (P := P) (ty := t) hB hsz h1 hi hc
  have hs : (execOp (a.put (some d) (.pointer (some ⟨w.heap.size, 0, none⟩))).eval o2).run P (w.alloc (.cells zs t)) = .ok .skip ((w.alloc (.cells zs t)).setRow w.heap.size cs) := by
    unfold execOp
    simp only [ho2, eval_put_same hdl, eval_put_ne hds, he, Instr.storeAt, Instr.sureAddr, Sem.run_bind, Sem.run_pure, Result.andThen_ok, hst]
  have hm2 : Mods Nil w ((w.alloc (.cells zs t)).setRow w.heap.size cs) := Mods.setRow ((Mods.refl Nil w).alloc _) (fun h => absurd h (Nat.lt_irrefl _)) cs
  refine hw_put (m + 1) g hk2 hr2 (by simp [Region.wanted, hg2]) hd2 hs (hM.trans hm2) ?_
  refine h _ (hB.setRow cs) hm2 (by simp [World.setRow])
end
end Go.Proofs.Ytpabbhhaagfoeaa
