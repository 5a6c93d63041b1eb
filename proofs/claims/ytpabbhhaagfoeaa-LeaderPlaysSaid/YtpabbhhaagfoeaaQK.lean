/- A region that draws its order: a condition on the world is kept until one operation (a call) has come up; what waits only for that one may be loaded first. No program. -/
import Derived.Test.YtpabbhhaagfoeaaQT
import Derived.OrdersHeld
import Derived.Deep.RegionHeld
namespace Go.Proofs.Ytpabbhhaagfoeaa
set_option maxRecDepth 100000
open Go.RowKit
set_option linter.unusedVariables false
set_option linter.unusedSimpArgs false

section
variable {P : Program} {ops : Array Oper} {Q : Exit → Act → World → Prop} {md : Region.Mode} {S : World → Prop} {k : Nat}
/-- Whatever order is picked; S holds behind each operation, as long as number k has not come up. -/
def wpAnyK (P : Program) (md : Region.Mode) (ops : Array Oper) (Q : Exit → Act → World → Prop) (S : World → Prop) (k : Nat) : Nat → Array Bool → Act → World → Prop
  | 0, listed, a, w => Region.ready md ops listed = [] ∧ Q .normal a w
  | fuel + 1, listed, a, w =>
    (Region.ready md ops listed = [] → Q .normal a w) ∧
    ∀ i ∈ Region.ready md ops listed, wpOp P ops Q i (fun a' w' => ((listed.setIfInBounds i true).getD k true = false → S w') ∧ wpAnyK P md ops Q S k fuel (listed.setIfInBounds i true) a' w') a w
theorem wpAny_of_K : ∀ (fuel : Nat) (listed : Array Bool) (a : Act) (w : World), wpAnyK P md ops Q S k fuel listed a w → wpAny P md ops Q fuel listed a w
  | 0, _, _, _, h => h
  | fuel + 1, _, _, _, h => ⟨h.1, fun i hi => wpOp_mono (fun a' w' h' => wpAny_of_K fuel _ a' w' h'.2) (h.2 i hi)⟩
theorem getD_set_true {listed : Array Bool} {i k : Nat} (h : listed.getD k true = true) : (listed.setIfInBounds i true).getD k true = true := by
  by_cases hik : i = k
  · subst hik
    by_cases hl : i < listed.size <;> simp [hl]
  · rw [getD_set_ne true hik]
    exact h
theorem wpAnyK_of_any : ∀ (fuel : Nat) (listed : Array Bool) (a : Act) (w : World), listed.getD k true = true → wpAny P md ops Q fuel listed a w → wpAnyK P md ops Q S k fuel listed a w
  | 0, _, _, _, _, h => h
  | fuel + 1, listed, _, _, hk, h => ⟨h.1, fun i hi => wpOp_mono (fun a' w' h' => ⟨fun h0 => (by rw [getD_set_true hk] at h0; cases h0), wpAnyK_of_any fuel _ a' w' (getD_set_true hk) h'⟩) (h.2 i hi)⟩
theorem wpAnyK_first {i : Nat} {oi : Oper} {v : Value} (hi : ops[i]? = some oi) (hsel : ∀ (j : Nat) (o : Oper) cs b, ops[j]? = some o → o.op ≠ .select cs b)
    (hQ : ∀ c a w, Q (.panic c) (a.put oi.dst v) w → Q (.panic c) a w) (hw : ∃ ok, ops[k]? = some ok ∧ ∃ e ∈ ok.after, Region.binds md e = true ∧ e.on = i) :
    ∀ (fuel : Nat) (listed : Array Bool) (a : Act) (w : World),
      (∀ j oj, ops[j]? = some oj → j ≠ i → listed.getD j true = false → (∀ e ∈ oj.after, Region.binds md e = true → e.on ≠ i) → oi.apart ops oj = true) →
      i ∈ Region.ready md ops listed → listed.getD k true = false → YieldsIf P ops S oi v a → S w →
      wpAnyK P md ops Q S k fuel (listed.setIfInBounds i true) (a.put oi.dst v) w → wpAnyK P md ops Q S k (fuel + 1) listed a w := by
  intro fuel
  induction fuel with
  | zero =>
    intro listed a w _ hr hk hy hS H
    refine ⟨fun h => (by rw [h] at hr; cases hr), fun j hj => ?_⟩
    by_cases hji : j = i
    · subst hji; exact hy.wpOp hi hS ⟨fun _ => hS, H⟩
    · have := ready_mono hj hji
      rw [H.1] at this
      cases this
  | succ fuel ih =>
    intro listed a w hfree hr hk hy hS H
    refine ⟨fun h => (by rw [h] at hr; cases hr), fun j hj => ?_⟩
    by_cases hji : j = i
    · subst hji; exact hy.wpOp hi hS ⟨fun _ => hS, H⟩
    · have h1 := H.2 j (ready_mono hj hji)
      obtain ⟨hjun, oj, hoj, hall⟩ := mem_ready.1 hj
      have hnot : ∀ e ∈ oj.after, Region.binds md e = true → e.on ≠ i := fun e he hb heq => by
        have h1 := hall e he hb
        have h0 := (mem_ready.1 hr).1
        rw [heq] at h1
        rcases Nat.lt_or_ge i listed.size with h' | h'
        · simp [h'] at h0 h1; rw [h0] at h1; cases h1
        · simp [Array.getElem?_eq_none h'] at h1
      have hjk : j ≠ k := fun e => by
        obtain ⟨ok, hok, ed, hed, hb, hon⟩ := hw
        subst e
        have : oj = ok := Option.some.inj (hoj.symm.trans hok)
        subst this
        exact hnot ed hed hb hon
      have hk2 : (listed.setIfInBounds j true).getD k true = false := by rw [getD_set_ne true hjk]; exact hk
      have hik : i ≠ k := fun e => by
        obtain ⟨ok, hok, ed, hed, hb, hon⟩ := hw
        subst e
        obtain ⟨hjun2, oj2, hoj2, hall2⟩ := mem_ready.1 hr
        have : oj2 = ok := Option.some.inj (hoj2.symm.trans hok)
        subst this
        have h2 := hall2 ed hed hb
        rw [hon] at h2
        rcases Nat.lt_or_ge i listed.size with h' | h'
        · simp [h'] at h2 hjun2; rw [hjun2] at h2; cases h2
        · simp [Array.getElem?_eq_none h'] at h2
      have hk3 : ((listed.setIfInBounds i true).setIfInBounds j true).getD k true = false := by rw [getD_set_ne true hjk, getD_set_ne true hik]; exact hk
      have h2 := wpOp_putIf hoj (hfree j oj hoj hji hjun hnot) (fun cs b => hsel i oi cs b hi) (fun cs b => hsel j oj cs b hoj) hQ hy h1
      have hfree' : ∀ k ok, ops[k]? = some ok → k ≠ i → (listed.setIfInBounds j true).getD k true = false →
          (∀ e ∈ ok.after, Region.binds md e = true → e.on ≠ i) → oi.apart ops ok = true := fun k ok hk hki hun hno => by
        refine hfree k ok hk hki ?_ hno
        by_cases hjk : j = k
        · subst hjk; exact hjun
        · rw [getD_set_ne true hjk] at hun; exact hun
      refine wpOp_mono (fun a' w' h3 => ⟨fun _ => h3.2.1 hk3, ih (listed.setIfInBounds j true) a' w' hfree' (ready_mono hr (Ne.symm hji)) hk2 h3.1 (h3.2.1 hk3) ?_⟩) h2
      rw [Array.setIfInBounds_comm _ _ hji]
      exact h3.2.2
/-- The beginning. -/
theorem qk_region {id : Nat} {l : List Oper} {a : Act} {w : World} (n : Nat) (hm : P.follows .mixedOrders = true) (hn : l.length = n) (h : wpAnyK P .any l.toArray Q S k n (upto l.toArray 0) a w.drew) : (Code.region id l.toArray true).wp P Q a w :=
  qt_region n hm hn (wpAny_of_K _ _ _ _ h)
def waitsOn (ops : Array Oper) (k i : Nat) : Bool := match ops[k]? with
  | some o => o.after.any fun e => Region.binds .any e && e.on == i
  | none => false
theorem waitsOn_spec {i : Nat} (h : waitsOn ops k i = true) : ∃ ok, ops[k]? = some ok ∧ ∃ e ∈ ok.after, Region.binds .any e = true ∧ e.on = i := by
  unfold waitsOn at h
  cases hk : ops[k]? with
  | none => rw [hk] at h; cases h
  | some o =>
    rw [hk] at h
    simp only [Array.any_eq_true', Bool.and_eq_true, beq_iff_eq] at h
    obtain ⟨e, he, h1, h2⟩ := h
    exact ⟨o, rfl, e, he, h1, h2⟩
/-- Number m is taken first: it yields its value in every world that meets S, and number k waits for it. -/
theorem qk_take {l : List Oper} {a : Act} {w : World} {v : Value} {o : Oper} (m g : Nat) (hk : l[m]? = some o) (hs : Region.noSelect l.toArray = true) (hf : Region.free .any l.toArray (upto l.toArray m) m = true)
    (hr : (Region.ready .any l.toArray (upto l.toArray m)).contains m = true) (hw : waitsOn l.toArray k m = true) (hkl : (upto l.toArray m).getD k true = false) (hQ : ∀ c a w, Q (.panic c) (a.put o.dst v) w → Q (.panic c) a w)
    (hg : Region.wanted o (yielded l.toArray a.tmps) = true) (hv : ∀ w, S w → (execOp a.eval o).run P w = .ok (.value v) w) (hS : S w)
    (h : wpAnyK P .any l.toArray Q S k g (upto l.toArray (m + 1)) (a.put o.dst v) w) : wpAnyK P .any l.toArray Q S k (g + 1) (upto l.toArray m) a w := by
  have hlt : m < l.toArray.size := by
    have := (List.getElem?_eq_some_iff.1 hk).1
    simpa using this
  exact wpAnyK_first (i := m) (oi := o) (v := v) (by simpa using hk) (Region.noSelect_spec hs) hQ (waitsOn_spec hw) g _ _ _ (Region.free_spec (by simpa using hk) hf) (by simpa using hr) hkl (.inl ⟨hg, hv⟩) hS (by rw [upto_set hlt]; exact h)
/-- Nothing but number m may come up: it yields its value in the world at hand. -/
theorem qk_value {l : List Oper} {a : Act} {w : World} {v : Value} {o : Oper} (m g : Nat) (hk : l[m]? = some o) (hr : Region.ready .any l.toArray (upto l.toArray m) = [m]) (hg : Region.wanted o (yielded l.toArray a.tmps) = true)
    (hv : (execOp a.eval o).run P w = .ok (.value v) w) (hS : S w) (h : wpAnyK P .any l.toArray Q S k g (upto l.toArray (m + 1)) (a.put o.dst v) w) : wpAnyK P .any l.toArray Q S k (g + 1) (upto l.toArray m) a w := by
  have hlt : m < l.toArray.size := by
    have := (List.getElem?_eq_some_iff.1 hk).1
    simpa using this
  refine ⟨fun h0 => (by rw [hr] at h0; cases h0), fun i hi => ?_⟩
  rw [hr] at hi
  obtain rfl : i = m := by simpa using hi
  have hk' : l.toArray[i]? = some o := by simpa using hk
  unfold wpOp
  simp only [hk']
  rw [if_pos hg]
  refine .inl ?_
  unfold Oper.wp
  rw [hv, upto_set hlt]
  exact ⟨fun _ => hS, h⟩
/-- Nothing but number m may come up: a call. -/
theorem qk_call {l : List Oper} {a : Act} {w : World} {o : Oper} (m g : Nat) (hk : l[m]? = some o) (hr : Region.ready .any l.toArray (upto l.toArray m) = [m]) (hg : Region.wanted o (yielded l.toArray a.tmps) = true) (f : FuncId) (args : Array Value) (he : (execOp a.eval o).run P w = .ok (.enter f args) w)
    (h : Calls P f args w fun e w' => ∃ v, e = .returned v ∧ S w' ∧ wpAnyK P .any l.toArray Q S k g (upto l.toArray (m + 1)) (a.put o.dst v) w') : wpAnyK P .any l.toArray Q S k (g + 1) (upto l.toArray m) a w := by
  have hlt : m < l.toArray.size := by
    have := (List.getElem?_eq_some_iff.1 hk).1
    simpa using this
  refine ⟨fun h0 => (by rw [hr] at h0; cases h0), fun i hi => ?_⟩
  rw [hr] at hi
  obtain rfl : i = m := by simpa using hi
  have hk' : l.toArray[i]? = some o := by simpa using hk
  unfold wpOp
  simp only [hk']
  rw [if_pos hg]
  refine .inl ?_
  unfold Oper.wp
  rw [he, upto_set hlt]
  unfold Oper.upon
  refine h.mono fun e w' ⟨v, h1, h2, h3⟩ => ?_
  subst h1
  exact ⟨fun _ => h2, h3⟩
/-- Number k itself: a call; behind it the rest goes as it may. -/
theorem qk_last {l : List Oper} {a : Act} {w : World} {o : Oper} (g : Nat) (hk : l[k]? = some o) (hr : Region.ready .any l.toArray (upto l.toArray k) = [k]) (hg : Region.wanted o (yielded l.toArray a.tmps) = true) (f : FuncId) (args : Array Value) (he : (execOp a.eval o).run P w = .ok (.enter f args) w)
    (h : Calls P f args w fun e w' => ∃ v, e = .returned v ∧ wpAny P .any l.toArray Q g (upto l.toArray (k + 1)) (a.put o.dst v) w') : wpAnyK P .any l.toArray Q S k (g + 1) (upto l.toArray k) a w := by
  have hlt : k < l.toArray.size := by
    have := (List.getElem?_eq_some_iff.1 hk).1
    simpa using this
  have hup : (upto l.toArray (k + 1)).getD k true = true := by rw [upto_get hlt]; simp
  refine ⟨fun h0 => (by rw [hr] at h0; cases h0), fun i hi => ?_⟩
  rw [hr] at hi
  obtain rfl : i = k := by simpa using hi
  have hk' : l.toArray[i]? = some o := by simpa using hk
  unfold wpOp
  simp only [hk']
  rw [if_pos hg]
  refine .inl ?_
  unfold Oper.wp
  rw [he, upto_set hlt]
  unfold Oper.upon
  refine h.mono fun e w' ⟨v, h1, h2⟩ => ?_
  subst h1
  exact ⟨fun h0 => (by rw [hup] at h0; cases h0), wpAnyK_of_any _ _ _ _ hup h2⟩
/-- Nothing but number m may come up: it yields its value, and the world becomes another one. -/
theorem qk_makes {l : List Oper} {a : Act} {w w' : World} {v : Value} {o : Oper} (m g : Nat) (hk : l[m]? = some o) (hr : Region.ready .any l.toArray (upto l.toArray m) = [m]) (hg : Region.wanted o (yielded l.toArray a.tmps) = true)
    (hv : (execOp a.eval o).run P w = .ok (.value v) w') (hS : S w') (h : wpAnyK P .any l.toArray Q S k g (upto l.toArray (m + 1)) (a.put o.dst v) w') : wpAnyK P .any l.toArray Q S k (g + 1) (upto l.toArray m) a w := by
  have hlt : m < l.toArray.size := by
    have := (List.getElem?_eq_some_iff.1 hk).1
    simpa using this
  refine ⟨fun h0 => (by rw [hr] at h0; cases h0), fun i hi => ?_⟩
  rw [hr] at hi
  obtain rfl : i = m := by simpa using hi
  have hk' : l.toArray[i]? = some o := by simpa using hk
  unfold wpOp
  simp only [hk']
  rw [if_pos hg]
  refine .inl ?_
  unfold Oper.wp
  rw [hv, upto_set hlt]
  exact ⟨fun _ => hS, h⟩
/-- Nothing but number k itself may come up: what is left goes as it may. -/
theorem qk_rest {l : List Oper} {a : Act} {w : World} (g : Nat) (hlt : k < l.length) (hr : Region.ready .any l.toArray (upto l.toArray k) = [k]) (h : wpAny P .any l.toArray Q (g + 1) (upto l.toArray k) a w) : wpAnyK P .any l.toArray Q S k (g + 1) (upto l.toArray k) a w := by
  refine ⟨fun h0 => (by rw [hr] at h0; cases h0), fun i hi => ?_⟩
  have hi2 := hi
  rw [hr] at hi
  obtain rfl : i = k := by simpa using hi
  have hup : ((upto l.toArray i).setIfInBounds i true).getD i true = true := by
    rw [upto_set (by simpa using hlt), upto_get (by simpa using hlt)]; simp
  exact wpOp_mono (fun a' w' h' => ⟨fun h0 => (by rw [hup] at h0; cases h0), wpAnyK_of_any _ _ _ _ hup h'⟩) (h.2 i hi2)
/-- A stage of operations that only read, while number k has not come up. -/
theorem stageK_sound {C : World → Prop} {n g : Nat} {L : Array Bool → Act → Prop} (hCS : ∀ V, C V → S V) (hL : ∀ listed a V, C V → L listed a → wpAnyK P .any ops Q S k g listed a V) :
    ∀ (f : Nat) (listed : Array Bool) (a : Act) (V : World), C V → StageQ P ops C n L f listed a → wpAnyK P .any ops Q S k (f + g) listed a V
  | 0, listed, a, V, hV, h => by rw [Nat.zero_add]; exact hL _ _ _ hV h
  | f + 1, listed, a, V, hV, h => by
    rw [show f + 1 + g = (f + g) + 1 by omega]
    exact ⟨fun h0 => absurd h0 h.1, fun i hi => wpOp_of_qOp hV (fun a' V' hV' h' => ⟨fun _ => hCS V' hV', stageK_sound hCS hL f _ a' V' hV' h'⟩) (h.2 i hi).2⟩
theorem qk_quiet {l : List Oper} {a : Act} {w : World} (C : World → Prop) (m f g : Nat) (hB : stageB l.toArray m (m + f) = true) (hC : C w) (hCS : ∀ V, C V → S V)
    (h : wpQuiet P l.toArray C (fun a' => ∀ V, C V → wpAnyK P .any l.toArray Q S k g (upto l.toArray (m + f)) a' V) ((l.drop m).take f) a) : wpAnyK P .any l.toArray Q S k (f + g) (upto l.toArray m) a w := by
  have St := stage_of hB
  have hlt := St.lt
  have hl : ((l.drop m).take f).length = f := by
    simp only [List.length_take, List.length_drop]
    have : l.toArray.size = l.length := by simp
    omega
  have H := stage_lex (P := P) (C := C) St ((l.drop m).take f) m a (fun j hj => by
    rw [hl] at hj
    simp [List.getElem?_drop, hj]) (Nat.le_refl _) (by rw [hl]) h
  rw [hl] at H
  exact stageK_sound hCS (fun listed a' V hV hL => by rw [hL.1]; exact hL.2 V hV) f _ _ _ hC H
end
end Go.Proofs.Ytpabbhhaagfoeaa
