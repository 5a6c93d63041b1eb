/- Texts laid as one: Acts15, QK15. -/
import Derived.Test.YtpabbhhaagfoeaaActs
import Derived.Test.YtpabbhhaagfoeaaQK

section
/- A slice of structs that comes in, some of whose fields are slices of structs (of ints, bools, bytes and rows of numbers). No program. -/
namespace Go.Proofs.Ytpabbhhaagfoeaa
set_option maxRecDepth 100000
open Go.ChangeShapes Go.WideShapes Go.ChangeAt Go.RowKit
set_option linter.unusedVariables false

/-- A field's kind: as in a flat struct, or rows of flat structs. -/
inductive Gk where
  | one (k : Fk)
  | recs (ks : List Fk)
inductive Gv where
  | one (v : Fv)
  | recs (A : Option Addr) (n c : Nat) (ks : List Fk) (l : List (List Fv))
instance : Inhabited Gv := ⟨.one default⟩
def Gv.val : Gv → Value
  | .one v => v.val
  | .recs A n c _ _ => .slice A n c
def Gv.kind : Gv → Gk
  | .one v => .one v.kind
  | .recs _ _ _ ks _ => .recs ks
def Gv.good (W : World) : Gv → Prop
  | .one v => v.good W
  | .recs A n c ks l => Acts W A n c ks l
theorem Gv.good.mods {W W' : World} {v : Gv} (h : v.good W) (hm : Mods Nil W W') : v.good W' := by
  cases v with
  | one v => exact Fv.good.mods h hm
  | recs A n c ks l => exact Acts.mods h hm
def Gk.fits (P : Program) (t : TypeId) : Gk → Prop
  | .one k => k.fits P t
  | .recs ks => ∃ e fs, P.underlying t = some (.slice e) ∧ P.underlying e = some (.struct fs) ∧ fitsAll P 0 fs.toList ks ∧ P.cellsOf e = ks.length ∧ 0 < ks.length
theorem open_gv {H : Type} {enc : TypeId × Value → H} {P : Program} {W : World} {n : Nat} {t : TypeId} {c : Value} {y : DataW H × List MemPlace} {k : Gk} (hk : k.fits P t) (h : DataW.trod enc P W 0 (fun _ => true) true n t [c] = some y) :
    ∃ v : Gv, v.kind = k ∧ c = v.val ∧ v.good W := by
  cases k with
  | one k =>
    obtain ⟨v, h1, h2, h3⟩ := open_fv hk h
    exact ⟨.one v, by simp [Gv.kind, h1], h2, h3⟩
  | recs ks =>
    obtain ⟨e, fs, h1, h2, h3, h4, h5⟩ := hk
    obtain ⟨A, l, cp, e⟩ := Joins.slice_form h1 h
    obtain rfl : c = .slice A l cp := by simpa using e
    obtain ⟨L, hL⟩ := open_acts (enc := enc) h1 h2 h3 h4 h5 (W := W) (a0 := A) (len := l) (cap := cp) (d0 := y.1) (p := y.2) ⟨n, by simpa [Value.cells] using h⟩
    exact ⟨.recs A l cp ks L, rfl, rfl, hL⟩

/-- The fields of a struct are of these kinds, one cell each. -/
def fitsAll2 (P : Program) : Nat → List Field → List Gk → Prop
  | _, [], [] => True
  | i, f :: fs, k :: ks => k.fits P f.type ∧ f.offset = i ∧ P.cellsOf f.type = 1 ∧ fitsAll2 P (i + 1) fs ks
  | _, _, _ => False
theorem fitsAll2.at_ {P : Program} : ∀ {i : Nat} {fs : List Field} {ks : List Gk}, fitsAll2 P i fs ks → fs.length = ks.length ∧ ∀ j f k, fs[j]? = some f → ks[j]? = some k → k.fits P f.type ∧ f.offset = i + j ∧ P.cellsOf f.type = 1
  | i, [], [], _ => ⟨rfl, fun j f k h => by simp at h⟩
  | i, f :: fs, k :: ks, h => by
    obtain ⟨h1, h2, h3, h4⟩ := h
    obtain ⟨hl, ha⟩ := fitsAll2.at_ h4
    refine ⟨by simp [hl], fun j g q hg hq => ?_⟩
    cases j with
    | zero => simp at hg hq; subst hg; subst hq; exact ⟨h1, h2, h3⟩
    | succ j =>
      obtain ⟨a, b, c⟩ := ha j g q (by simpa using hg) (by simpa using hq)
      exact ⟨a, by omega, c⟩

/-- A script in memory. -/
structure Acts2 (W : World) (a0 : Option Addr) (len cap : Nat) (ks : List Gk) (l : List (List Gv)) : Prop where
  size : l.length = len
  le : len ≤ cap
  most : cap ≤ maxLen
  cells : 0 < len → ∃ b off, a0 = some ⟨b, off, none⟩ ∧ b < W.heap.size ∧ ∀ i x, l[i]? = some x → ∀ j v, x[j]? = some v → W.cell? ⟨b, off + (i * ks.length + j), none⟩ = some v.val
  good : ∀ x ∈ l, x.map Gv.kind = ks ∧ ∀ v ∈ x, v.good W
theorem Acts2.mods {W W' : World} {a0 : Option Addr} {len cap : Nat} {ks : List Gk} {l : List (List Gv)} (h : Acts2 W a0 len cap ks l) (hm : Mods Nil W W') : Acts2 W' a0 len cap ks l := by
  refine ⟨h.size, h.le, h.most, fun h0 => ?_, fun x hx => ⟨(h.good x hx).1, fun v hv => ((h.good x hx).2 v hv).mods hm⟩⟩
  obtain ⟨b, off, e, hlt, hc⟩ := h.cells h0
  exact ⟨b, off, e, Nat.lt_of_lt_of_le hlt hm.size, fun i x hx j v hv => (World.cell?_of_block (hm.block b hlt (fun h => h))).trans (hc i x hx j v hv)⟩

theorem open_acts2 {H : Type} {enc : TypeId × Value → H} {P : Program} {t e : TypeId} {fs : Array Field} {ks : List Gk} (ht : P.underlying t = some (.slice e)) (he : P.underlying e = some (.struct fs)) (hf : fitsAll2 P 0 fs.toList ks) (hc : P.cellsOf e = ks.length) (hpos : 0 < ks.length) {W : World} {a0 : Option Addr} {len cap : Nat} {d0 : DataW H} {p : List MemPlace}
    (h0 : DataW.Trod enc P W 0 (fun _ => true) true t (.slice a0 len cap) d0 p) : ∃ l : List (List Gv), Acts2 W a0 len cap ks l := by
  obtain ⟨hfl, hfa⟩ := hf.at_
  obtain ⟨fuel, hfu⟩ := h0
  rcases Go.Deep.open_slice ht hfu with ⟨hcs, hx⟩ | ⟨a, ln, cp, m, n, D, Pl, hcs, _, hl, hm, hmm, _, hV⟩
  · simp [Value.cells] at hcs
    obtain ⟨rfl, rfl, rfl⟩ := hcs
    exact ⟨[], rfl, Nat.le_refl _, Nat.zero_le _, fun h => by omega, fun _ h => by cases h⟩
  · simp [Value.cells] at hcs
    obtain ⟨rfl, rfl, rfl⟩ := hcs
    simp only [if_true] at hmm
    subst hmm
    obtain ⟨R, hR⟩ := Go.Deep.choose_lt (α := List Gv) (n := m) (p := fun i x => x.map Gv.kind = ks ∧ (∀ v ∈ x, v.good W) ∧ ∀ j v, x[j]? = some v → W.cell? (a.add (i * ks.length + j)) = some v.val) (fun i hi => by
      obtain ⟨cs', h1, h2⟩ := hV i hi
      rw [hc] at h1
      obtain ⟨_, hlen, hcell⟩ := World.cells?_some h1
      obtain ⟨xs, k, hk, hxy, _, hxl, hfd⟩ := DataW.trod_struct he h2
      obtain ⟨Q, hQ⟩ := Go.Deep.choose_lt (α := Gv) (n := ks.length) (p := fun j v => ks[j]? = some v.kind ∧ cs'[j]? = some v.val ∧ v.good W) (fun j hj => by
        have hjf : j < fs.size := by have : fs.toList.length = ks.length := hfl; simp at this; omega
        obtain ⟨g1, g2, g3⟩ := hfa j fs[j] ks[j] (by simp [hjf]) (by simp [hj])
        have hfj := hfd j fs[j] (by simp [hjf])
        rw [g3, g2, Nat.zero_add] at hfj
        have hjc : j < cs'.length := by omega
        have e1 : List.take 1 (List.drop j cs') = [cs'[j]] := by rw [List.drop_eq_getElem_cons hjc]; rfl
        rw [e1, List.getElem?_eq_getElem (by omega)] at hfj
        obtain ⟨v, v1, v2, v3⟩ := open_gv g1 hfj
        exact ⟨v, by rw [List.getElem?_eq_getElem hj, v1], by rw [List.getElem?_eq_getElem hjc, v2], v3⟩)
      refine ⟨(List.range ks.length).map Q, ?_, ?_, ?_⟩
      · apply List.ext_getElem?
        intro j
        by_cases hj : j < ks.length
        · rw [(hQ j hj).1]; simp [hj]
        · simp [hj]
      · intro v hv
        simp at hv
        obtain ⟨j, hj, rfl⟩ := hv
        exact (hQ j hj).2.2
      · intro j v hv
        by_cases hj : j < ks.length
        · simp [hj] at hv
          subst hv
          have := hcell j (by omega)
          rw [Go.Deep.add_add, (hQ j hj).2.1] at this
          exact this
        · simp [hj] at hv)
    refine ⟨(List.range len).map R, by simp, hl, hm, fun h0 => ?_, ?_⟩
    · obtain ⟨blk, off, spot⟩ := a
      obtain ⟨r1, r2, r3⟩ := hR 0 (by omega)
      have hne : 0 < (R 0).length := by have := congrArg List.length r1; simp at this; omega
      have hc0 := r3 0 _ (List.getElem?_eq_getElem hne)
      have hspot : spot = none := by simpa [Addr.add] using World.cell?_spot hc0
      subst hspot
      refine ⟨blk, off, rfl, ?_, fun i x hx j v hv => ?_⟩
      · have := World.block_lt_of_cell? W _ hc0
        simpa [Addr.add] using this
      · have hi : i < len := by
          have := (List.getElem?_eq_some_iff.1 hx).1
          simpa using this
        simp [hi] at hx
        subst hx
        have := (hR i (by omega)).2.2 j v hv
        rw [Addr.add_lit] at this
        exact this
    · intro x hx
      simp at hx
      obtain ⟨i, hi, rfl⟩ := hx
      exact ⟨(hR i (by omega)).1, (hR i (by omega)).2.1⟩
end Go.Proofs.Ytpabbhhaagfoeaa
end

section
/- A region that draws its order: a load that waits for a later call is taken ahead of the calls that lie before it in the text. No program. -/
namespace Go.Proofs.Ytpabbhhaagfoeaa
set_option maxRecDepth 100000
open Go.RowKit
set_option linter.unusedVariables false
section
variable {P : Program} {Q : Exit → Act → World → Prop} {S : World → Prop} {k : Nat}
/-- Number i is taken ahead: it yields its value in every world that meets S, and number k waits for it. -/
theorem qk_ahead {l : List Oper} {a : Act} {w : World} {v : Value} {o : Oper} (i g : Nat) (L L' : Array Bool) (hk : l[i]? = some o) (hs : Region.noSelect l.toArray = true) (hf : Region.free .any l.toArray L i = true)
    (hr : (Region.ready .any l.toArray L).contains i = true) (hw : waitsOn l.toArray k i = true) (hkl : L.getD k true = false) (hQ : ∀ c a w, Q (.panic c) (a.put o.dst v) w → Q (.panic c) a w)
    (hL : L.setIfInBounds i true = L') (hg : Region.wanted o (yielded l.toArray a.tmps) = true) (hv : ∀ w, S w → (execOp a.eval o).run P w = .ok (.value v) w) (hS : S w)
    (h : wpAnyK P .any l.toArray Q S k g L' (a.put o.dst v) w) : wpAnyK P .any l.toArray Q S k (g + 1) L a w :=
  wpAnyK_first (i := i) (oi := o) (v := v) (by simpa using hk) (Region.noSelect_spec hs) hQ (waitsOn_spec hw) g _ _ _ (Region.free_spec (by simpa using hk) hf) (by simpa using hr) hkl (.inl ⟨hg, hv⟩) hS (by rw [hL]; exact h)
/-- Nothing but number m may come up: a call. -/
theorem qk_callL {l : List Oper} {a : Act} {w : World} {o : Oper} (m g : Nat) (L L' : Array Bool) (hk : l[m]? = some o) (hr : Region.ready .any l.toArray L = [m]) (hL : L.setIfInBounds m true = L') (hg : Region.wanted o (yielded l.toArray a.tmps) = true) (f : FuncId) (args : Array Value) (he : (execOp a.eval o).run P w = .ok (.enter f args) w)
    (h : Calls P f args w fun e w' => ∃ v, e = .returned v ∧ S w' ∧ wpAnyK P .any l.toArray Q S k g L' (a.put o.dst v) w') : wpAnyK P .any l.toArray Q S k (g + 1) L a w := by
  refine ⟨fun h0 => (by rw [hr] at h0; cases h0), fun i hi => ?_⟩
  rw [hr] at hi
  obtain rfl : i = m := by simpa using hi
  have hk' : l.toArray[i]? = some o := by simpa using hk
  unfold wpOp
  simp only [hk']
  rw [if_pos hg]
  refine .inl ?_
  unfold Oper.wp
  rw [he, hL]
  unfold Oper.upon
  refine h.mono fun e w' ⟨v, h1, h2, h3⟩ => ?_
  subst h1
  exact ⟨fun _ => h2, h3⟩
/-- The same, where all ahead of number k have come up then. -/
theorem qk_callU {l : List Oper} {a : Act} {w : World} {o : Oper} (m g : Nat) (L : Array Bool) (hk : l[m]? = some o) (hr : Region.ready .any l.toArray L = [m]) (hL : L.setIfInBounds m true = upto l.toArray k) (hg : Region.wanted o (yielded l.toArray a.tmps) = true) (f : FuncId) (args : Array Value) (he : (execOp a.eval o).run P w = .ok (.enter f args) w)
    (h : Calls P f args w fun e w' => ∃ v, e = .returned v ∧ S w' ∧ wpAnyK P .any l.toArray Q S k g (upto l.toArray k) (a.put o.dst v) w') : wpAnyK P .any l.toArray Q S k (g + 1) L a w :=
  qk_callL m g L _ hk hr hL hg f args he h
/-- Nothing but number m may come up: it yields its value in the world at hand. -/
theorem qk_valueL {l : List Oper} {a : Act} {w : World} {v : Value} {o : Oper} (m g : Nat) (L L' : Array Bool) (hk : l[m]? = some o) (hr : Region.ready .any l.toArray L = [m]) (hL : L.setIfInBounds m true = L') (hg : Region.wanted o (yielded l.toArray a.tmps) = true)
    (hv : (execOp a.eval o).run P w = .ok (.value v) w) (hS : S w) (h : wpAnyK P .any l.toArray Q S k g L' (a.put o.dst v) w) : wpAnyK P .any l.toArray Q S k (g + 1) L a w := by
  refine ⟨fun h0 => (by rw [hr] at h0; cases h0), fun i hi => ?_⟩
  rw [hr] at hi
  obtain rfl : i = m := by simpa using hi
  have hk' : l.toArray[i]? = some o := by simpa using hk
  unfold wpOp
  simp only [hk']
  rw [if_pos hg]
  refine .inl ?_
  unfold Oper.wp
  rw [hv, hL]
  exact ⟨fun _ => hS, h⟩
/-- An operation that yields its value in every world is taken ahead, whether or not number k waits for it. -/
theorem wpAnyK_take {ops : Array Oper} {md : Region.Mode} {i : Nat} {oi : Oper} {v : Value} (hi : ops[i]? = some oi) (hsel : ∀ (j : Nat) (o : Oper) cs b, ops[j]? = some o → o.op ≠ .select cs b)
    (hQ : ∀ c a w, Q (.panic c) (a.put oi.dst v) w → Q (.panic c) a w) (hik : i ≠ k) :
    ∀ (fuel : Nat) (listed : Array Bool) (a : Act) (w : World),
      (∀ j oj, ops[j]? = some oj → j ≠ i → listed.getD j true = false → (∀ e ∈ oj.after, Region.binds md e = true → e.on ≠ i) → oi.apart ops oj = true) →
      i ∈ Region.ready md ops listed → YieldsIf P ops (fun _ => True) oi v a → (listed.getD k true = false → S w) →
      wpAnyK P md ops Q S k fuel (listed.setIfInBounds i true) (a.put oi.dst v) w → wpAnyK P md ops Q S k (fuel + 1) listed a w := by
  intro fuel
  induction fuel with
  | zero =>
    intro listed a w _ hr hy hS H
    refine ⟨fun h => (by rw [h] at hr; cases hr), fun j hj => ?_⟩
    by_cases hji : j = i
    · subst hji; exact hy.wpOp hi trivial ⟨fun h0 => hS (by rw [getD_set_ne true hik] at h0; exact h0), H⟩
    · have := ready_mono hj hji
      rw [H.1] at this
      cases this
  | succ fuel ih =>
    intro listed a w hfree hr hy hS H
    refine ⟨fun h => (by rw [h] at hr; cases hr), fun j hj => ?_⟩
    by_cases hji : j = i
    · subst hji; exact hy.wpOp hi trivial ⟨fun h0 => hS (by rw [getD_set_ne true hik] at h0; exact h0), H⟩
    · have h1 := H.2 j (ready_mono hj hji)
      obtain ⟨hjun, oj, hoj, hall⟩ := mem_ready.1 hj
      have hnot : ∀ e ∈ oj.after, Region.binds md e = true → e.on ≠ i := fun e he hb heq => by
        have h1 := hall e he hb
        have h0 := (mem_ready.1 hr).1
        rw [heq] at h1
        rcases Nat.lt_or_ge i listed.size with h' | h'
        · simp [h'] at h0 h1; rw [h0] at h1; cases h1
        · simp [Array.getElem?_eq_none h'] at h1
      have h2 := wpOp_putIf hoj (hfree j oj hoj hji hjun hnot) (fun cs b => hsel i oi cs b hi) (fun cs b => hsel j oj cs b hoj) hQ hy h1
      have hfree' : ∀ t ok, ops[t]? = some ok → t ≠ i → (listed.setIfInBounds j true).getD t true = false →
          (∀ e ∈ ok.after, Region.binds md e = true → e.on ≠ i) → oi.apart ops ok = true := fun t ok hk hki hun hno => by
        refine hfree t ok hk hki ?_ hno
        by_cases hjk : j = t
        · subst hjk; exact hjun
        · rw [getD_set_ne true hjk] at hun; exact hun
      have hcond : ∀ b, ((listed.setIfInBounds j true).getD k true = b) → (((listed.setIfInBounds i true).setIfInBounds j true).getD k true = b) := fun b h => by
        rw [Array.setIfInBounds_comm _ _ (Ne.symm hji), getD_set_ne true hik]
        exact h
      refine wpOp_mono (fun a' w' h3 => ⟨fun h0 => h3.2.1 (hcond _ h0), ih (listed.setIfInBounds j true) a' w' hfree' (ready_mono hr (Ne.symm hji)) h3.1 (fun h0 => h3.2.1 (hcond _ h0)) ?_⟩) h2
      rw [Array.setIfInBounds_comm _ _ hji]
      exact h3.2.2
theorem qk_takeL {l : List Oper} {a : Act} {w : World} {v : Value} {o : Oper} (i g : Nat) (L L' : Array Bool) (hk : l[i]? = some o) (hs : Region.noSelect l.toArray = true) (hf : Region.free .any l.toArray L i = true)
    (hr : (Region.ready .any l.toArray L).contains i = true) (hik : i ≠ k) (hQ : ∀ c a w, Q (.panic c) (a.put o.dst v) w → Q (.panic c) a w)
    (hL : L.setIfInBounds i true = L') (hg : Region.wanted o (yielded l.toArray a.tmps) = true) (hv : ∀ w, (execOp a.eval o).run P w = .ok (.value v) w) (hS : S w)
    (h : wpAnyK P .any l.toArray Q S k g L' (a.put o.dst v) w) : wpAnyK P .any l.toArray Q S k (g + 1) L a w :=
  wpAnyK_take (i := i) (oi := o) (v := v) (by simpa using hk) (Region.noSelect_spec hs) hQ hik g _ _ _ (Region.free_spec (by simpa using hk) hf) (by simpa using hr) (.inl ⟨hg, fun w _ => hv w⟩) (fun _ => hS) (by rw [hL]; exact h)
theorem wpOp_callL {l : List Oper} {a : Act} {w : World} {o : Oper} {R : Act → World → Prop} (m : Nat) (hk : l[m]? = some o) (hg : Region.wanted o (yielded l.toArray a.tmps) = true) (f : FuncId) (args : Array Value) (he : (execOp a.eval o).run P w = .ok (.enter f args) w)
    (h : Calls P f args w fun e w' => ∃ v, e = .returned v ∧ R (a.put o.dst v) w') : wpOp P l.toArray Q m R a w := by
  have hk' : l.toArray[m]? = some o := by simpa using hk
  unfold wpOp
  simp only [hk']
  rw [if_pos hg]
  refine .inl ?_
  unfold Oper.wp
  rw [he]
  unfold Oper.upon
  refine h.mono fun e w' ⟨v, h1, h2⟩ => ?_
  subst h1
  exact h2
theorem wpOp_valueL {l : List Oper} {a : Act} {w w' : World} {v : Value} {o : Oper} {R : Act → World → Prop} (m : Nat) (hk : l[m]? = some o) (hg : Region.wanted o (yielded l.toArray a.tmps) = true) (hv : (execOp a.eval o).run P w = .ok (.value v) w')
    (h : R (a.put o.dst v) w') : wpOp P l.toArray Q m R a w := by
  have hk' : l.toArray[m]? = some o := by simpa using hk
  unfold wpOp
  simp only [hk']
  rw [if_pos hg]
  refine .inl ?_
  unfold Oper.wp
  rw [hv]
  exact h
/-- Two may come up: a call, or one that yields its value and makes another world. -/
theorem qk_two {l : List Oper} {a : Act} {w w2 : World} {v2 : Value} {o1 o2 : Oper} (m1 m2 g : Nat) (L L1 L2 : Array Bool) (hk1 : l[m1]? = some o1) (hk2 : l[m2]? = some o2) (hr : Region.ready .any l.toArray L = [m1, m2])
    (hL1 : L.setIfInBounds m1 true = L1) (hL2 : L.setIfInBounds m2 true = L2) (hg1 : Region.wanted o1 (yielded l.toArray a.tmps) = true) (hg2 : Region.wanted o2 (yielded l.toArray a.tmps) = true)
    (f : FuncId) (args : Array Value) (he : (execOp a.eval o1).run P w = .ok (.enter f args) w) (hv : (execOp a.eval o2).run P w = .ok (.value v2) w2) (hS : S w2)
    (h1 : Calls P f args w fun e w' => ∃ v, e = .returned v ∧ S w' ∧ wpAnyK P .any l.toArray Q S k g L1 (a.put o1.dst v) w')
    (h2 : wpAnyK P .any l.toArray Q S k g L2 (a.put o2.dst v2) w2) : wpAnyK P .any l.toArray Q S k (g + 1) L a w := by
  refine ⟨fun h0 => (by rw [hr] at h0; cases h0), fun i hi => ?_⟩
  rw [hr] at hi
  have hi' : i = m1 ∨ i = m2 := by simpa using hi
  rcases hi' with rfl | rfl
  · refine wpOp_callL i hk1 hg1 f args he (h1.mono fun e w' ⟨v, e1, e2, e3⟩ => ⟨v, e1, fun _ => e2, ?_⟩)
    rw [hL1]; exact e3
  · refine wpOp_valueL i hk2 hg2 hv ⟨fun _ => hS, ?_⟩
    rw [hL2]; exact h2
/-- Nothing but number m may come up: it yields its value, and the world becomes another one. -/
theorem qk_makesL {l : List Oper} {a : Act} {w w' : World} {v : Value} {o : Oper} (m g : Nat) (L L' : Array Bool) (hk : l[m]? = some o) (hr : Region.ready .any l.toArray L = [m]) (hL : L.setIfInBounds m true = L') (hg : Region.wanted o (yielded l.toArray a.tmps) = true)
    (hv : (execOp a.eval o).run P w = .ok (.value v) w') (hS : S w') (h : wpAnyK P .any l.toArray Q S k g L' (a.put o.dst v) w') : wpAnyK P .any l.toArray Q S k (g + 1) L a w := by
  refine ⟨fun h0 => (by rw [hr] at h0; cases h0), fun i hi => ?_⟩
  rw [hr] at hi
  obtain rfl : i = m := by simpa using hi
  refine wpOp_valueL i hk hg hv ⟨fun _ => hS, ?_⟩
  rw [hL]; exact h
/-- All ahead of number k have come up, in whatever way it is said. -/
theorem qk_restL {l : List Oper} {a : Act} {w : World} (g : Nat) (L : Array Bool) (hL : L = upto l.toArray k) (hlt : k < l.length) (hr : Region.ready .any l.toArray (upto l.toArray k) = [k]) (h : wpAny P .any l.toArray Q (g + 1) (upto l.toArray k) a w) : wpAnyK P .any l.toArray Q S k (g + 1) L a w := by
  rw [hL]; exact qk_rest g hlt hr h
end
end Go.Proofs.Ytpabbhhaagfoeaa
end
