/- A leader in plain lists: who promised, what votes are known, what is open and who voted for it. No program. -/
import Derived.Test.YtpabbhhaagfoeaaAcc0
namespace Go.Proofs.Ytpabbhhaagfoeaa
set_option maxRecDepth 100000
open Go.RowKit
set_option linter.unusedVariables false
set_option linter.unusedSimpArgs false

/-- A proposal that is open, and who voted. -/
structure POp where
  v : PVt
  who : List Nat
/-- A leader: stage 0 idle, 1 asks, 2 leads. -/
structure PLd where
  many : Nat
  stage : Nat := 0
  bal : Nat := 0
  first : Nat := 0
  next : Nat := 0
  prom : List Nat := []
  known : List PVt := []
  opn : List POp := []
def PLd.beginE (l : PLd) (b : Nat) : Nat := if b ≤ l.bal then 32 else 0
def PLd.begin_ (l : PLd) (b f : Nat) : PLd := if b ≤ l.bal then l else { many := l.many, stage := 1, bal := b, first := f }
def PLd.stop (l : PLd) : PLd := { l with stage := 0, opn := [] }
/-- A vote that is told. -/
def noteV (known : List PVt) (v : PVt) : List PVt := match known.findIdx? (fun x => decide (x.slot = v.slot)) with
  | none => known ++ [v]
  | some i => match known[i]? with
    | some k => if k.bal < v.bal then known.set i v else known
    | none => known
def noteVs (known : List PVt) (vs : List PVt) : List PVt := vs.foldl noteV known
theorem noteVs_snoc (known vs : List PVt) (v : PVt) : noteVs known (vs ++ [v]) = noteV (noteVs known vs) v := by simp [noteVs]
theorem noteVs_nil (known : List PVt) : noteVs known [] = known := rfl
theorem lookV_cons (x : PVt) (l : List PVt) (s : Nat) : lookV (x :: l) s = if x.slot = s then some x else lookV l s := by
  unfold lookV
  rw [List.find?_cons]
  by_cases h : x.slot = s <;> simp [h]
theorem lookV_push (l : List PVt) (x : PVt) (s : Nat) : lookV (l ++ [x]) s = match lookV l s with | some u => some u | none => if x.slot = s then some x else none := by
  induction l with
  | nil => rw [List.nil_append, lookV_cons]; rfl
  | cons p l ih =>
    rw [List.cons_append, lookV_cons, lookV_cons]
    by_cases h : p.slot = s
    · rw [if_pos h, if_pos h]
    · rw [if_neg h, if_neg h, ih]
/-- The first place of a slot. -/
def idxV (l : List PVt) (s : Nat) : Option Nat := l.findIdx? (fun x => decide (x.slot = s))
theorem idxV_nil (s : Nat) : idxV [] s = none := rfl
theorem idxV_cons (x : PVt) (l : List PVt) (s : Nat) : idxV (x :: l) s = if x.slot = s then some 0 else (idxV l s).map (· + 1) := by
  unfold idxV
  rw [List.findIdx?_cons]
  by_cases h : x.slot = s <;> simp [h]
theorem idxV_none {s : Nat} : ∀ {l : List PVt}, idxV l s = none ↔ ∀ x ∈ l, x.slot ≠ s
  | [] => by simp [idxV_nil]
  | x :: l => by
    rw [idxV_cons]
    by_cases h : x.slot = s
    · simp [h]
    · rw [if_neg h]
      simp only [Option.map_eq_none_iff, idxV_none (l := l), List.mem_cons, forall_eq_or_imp]
      exact ⟨fun g => ⟨h, g⟩, fun g => g.2⟩
theorem idxV_some {s : Nat} : ∀ {l : List PVt} {i : Nat}, idxV l s = some i → ∃ k, l[i]? = some k ∧ k.slot = s ∧ lookV l s = some k ∧ i < l.length
  | x :: l, i, h => by
    rw [idxV_cons] at h
    rw [lookV_cons]
    by_cases hx : x.slot = s
    · rw [if_pos hx] at h ⊢
      injection h with h
      subst h
      exact ⟨x, rfl, hx, rfl, by simp⟩
    · rw [if_neg hx] at h ⊢
      cases hi : idxV l s with
      | none => rw [hi] at h; cases h
      | some j =>
        rw [hi] at h
        simp at h
        subst h
        obtain ⟨k, h1, h2, h3, h4⟩ := idxV_some hi
        exact ⟨k, by simpa using h1, h2, h3, by simp; omega⟩
theorem idxV_at {s : Nat} : ∀ {l : List PVt} {i : Nat} {k : PVt}, l[i]? = some k → k.slot = s → (∀ j, j < i → ∀ x, l[j]? = some x → x.slot ≠ s) → idxV l s = some i
  | x :: l, 0, k, h, hs, _ => by
    simp at h
    subst h
    rw [idxV_cons, if_pos hs]
  | x :: l, i + 1, k, h, hs, hno => by
    rw [idxV_cons, if_neg (hno 0 (by omega) x rfl), idxV_at (l := l) (i := i) (k := k) (by simpa using h) hs (fun j hj y hy => hno (j + 1) (by omega) y (by simpa using hy))]
    rfl
theorem noteV_none {known : List PVt} {v : PVt} (h : idxV known v.slot = none) : noteV known v = known ++ [v] := by
  unfold noteV
  unfold idxV at h
  rw [h]
theorem noteV_set {known : List PVt} {v k : PVt} {i : Nat} (h : idxV known v.slot = some i) (hk : known[i]? = some k) (hb : k.bal < v.bal) : noteV known v = known.set i v := by
  unfold noteV
  unfold idxV at h
  rw [h]
  simp only [hk]
  rw [if_pos hb]
theorem noteV_same {known : List PVt} {v k : PVt} {i : Nat} (h : idxV known v.slot = some i) (hk : known[i]? = some k) (hb : ¬ k.bal < v.bal) : noteV known v = known := by
  unfold noteV
  unfold idxV at h
  rw [h]
  simp only [hk]
  rw [if_neg hb]
theorem look_set {s : Nat} : ∀ {l : List PVt} {i : Nat} {v : PVt}, idxV l v.slot = some i → lookV (l.set i v) s = if s = v.slot then some v else lookV l s
  | x :: l, i, v, h => by
    rw [idxV_cons] at h
    by_cases hx : x.slot = v.slot
    · rw [if_pos hx] at h
      injection h with h
      subst h
      rw [List.set_cons_zero, lookV_cons, lookV_cons]
      by_cases hs : s = v.slot
      · subst hs; rw [if_pos rfl, if_pos rfl]
      · rw [if_neg (fun e => hs e.symm), if_neg hs, if_neg (fun e => hs (by rw [← e, hx]))]
    · rw [if_neg hx] at h
      cases hi : idxV l v.slot with
      | none => rw [hi] at h; cases h
      | some j =>
        rw [hi] at h
        simp at h
        subst h
        rw [List.set_cons_succ, lookV_cons, lookV_cons, look_set hi]
        by_cases hs : x.slot = s
        · rw [if_pos hs, if_pos hs, if_neg (fun e => hx (by rw [hs, e]))]
        · rw [if_neg hs, if_neg hs]
/-- What is known of a slot, behind a vote that was told. -/
theorem look_note (known : List PVt) (v : PVt) (s : Nat) : lookV (noteV known v) s = if s = v.slot then (match lookV known s with | none => some v | some k => if k.bal < v.bal then some v else some k) else lookV known s := by
  cases h : idxV known v.slot with
  | none =>
    have hl : lookV known v.slot = none := lookV_none.2 (idxV_none.1 h)
    rw [noteV_none h, lookV_push]
    by_cases hs : s = v.slot
    · subst hs; rw [hl, if_pos rfl]
    · rw [if_neg hs]
      cases lookV known s with
      | some u => rfl
      | none => exact if_neg (fun e => hs e.symm)
  | some i =>
    obtain ⟨k, h1, h2, h3, h4⟩ := idxV_some h
    by_cases hb : k.bal < v.bal
    · rw [noteV_set h h1 hb, look_set h]
      by_cases hs : s = v.slot
      · subst hs; rw [if_pos rfl, if_pos rfl, h3]; simp [hb]
      · rw [if_neg hs, if_neg hs]
    · rw [noteV_same h h1 hb]
      by_cases hs : s = v.slot
      · subst hs; rw [if_pos rfl, h3]; simp [hb]
      · rw [if_neg hs]
theorem noteV_mem {known : List PVt} {v x : PVt} (h : x ∈ noteV known v) : x = v ∨ x ∈ known := by
  unfold noteV at h
  cases hi : known.findIdx? (fun x => decide (x.slot = v.slot)) with
  | none =>
    rw [hi] at h
    simp at h
    exact h.symm
  | some i =>
    rw [hi] at h
    simp only at h
    cases hk : known[i]? with
    | none => rw [hk] at h; exact .inr h
    | some k =>
      rw [hk] at h
      simp only at h
      split at h
      · rcases List.mem_or_eq_of_mem_set h with h | h
        · exact .inr h
        · exact .inl h
      · exact .inr h
theorem noteV_len (known : List PVt) (v : PVt) : (noteV known v).length ≤ known.length + 1 := by
  unfold noteV
  cases known.findIdx? (fun x => decide (x.slot = v.slot)) with
  | none => simp
  | some i =>
    simp only
    cases known[i]? with
    | none => simp
    | some k =>
      simp only
      split <;> simp
theorem noteVs_mem {known : List PVt} : ∀ {vs : List PVt} {x : PVt}, x ∈ noteVs known vs → x ∈ vs ∨ x ∈ known := by
  intro vs
  induction vs generalizing known with
  | nil => intro x h; exact .inr h
  | cons v vs ih =>
    intro x h
    rcases ih (known := noteV known v) h with h | h
    · exact .inl (by simp [h])
    · rcases noteV_mem h with rfl | h
      · exact .inl (by simp)
      · exact .inr h
theorem noteVs_len (known : List PVt) : ∀ vs : List PVt, (noteVs known vs).length ≤ known.length + vs.length := by
  intro vs
  induction vs generalizing known with
  | nil => simp [noteVs_nil]
  | cons v vs ih =>
    have h1 := ih (noteV known v)
    have h2 := noteV_len known v
    show (noteVs (noteV known v) vs).length ≤ _
    simp; omega

/-! A promise. -/
def PLd.deaf (l : PLd) (node : Int) (b : Nat) : Prop := l.stage ≠ 1 ∨ b ≠ l.bal ∨ node < 0 ∨ (l.many : Int) ≤ node ∨ node.toNat ∈ l.prom
instance (l : PLd) (node : Int) (b : Nat) : Decidable (l.deaf node b) := by unfold PLd.deaf; infer_instance
/-- It is noted. -/
def PLd.note (l : PLd) (node low : Nat) (vs : List PVt) : PLd := { l with prom := l.prom ++ [node], first := max l.first low, known := noteVs l.known vs }
/-- Is a vote too far? -/
def farV (first : Nat) (v : PVt) : Prop := first ≤ v.slot ∧ (v.slot = 18446744073709551615 ∨ 4095 < v.slot - first)
instance (first : Nat) (v : PVt) : Decidable (farV first v) := by unfold farV; infer_instance
/-- Behind the last slot that has a known vote. -/
def endV (first : Nat) : List PVt → Nat
  | [] => first
  | v :: l => max (if first ≤ v.slot then v.slot + 1 else first) (endV first l)
theorem endV_append (first : Nat) : ∀ l m : List PVt, endV first (l ++ m) = max (endV first l) (endV first m)
  | [], m => by
    have : first ≤ endV first m := by
      induction m with
      | nil => exact Nat.le_refl _
      | cons v m ih => simp only [endV]; omega
    simp only [List.nil_append, endV]; omega
  | v :: l, m => by
    simp only [List.cons_append, endV, endV_append first l m]; omega
theorem endV_ge (first : Nat) (l : List PVt) : first ≤ endV first l := by
  induction l with
  | nil => exact Nat.le_refl _
  | cons v l ih => simp only [endV]; omega
theorem endV_snoc (first : Nat) (l : List PVt) (v : PVt) : endV first (l ++ [v]) = if first ≤ v.slot then max (endV first l) (v.slot + 1) else endV first l := by
  have := endV_ge first l
  rw [endV_append]
  simp only [endV]
  split <;> omega
theorem endV_le {first : Nat} {l : List PVt} (h : ∀ v ∈ l, ¬ farV first v) : endV first l ≤ first + 4096 := by
  induction l with
  | nil => simp [endV]
  | cons v l ih =>
    have h1 := ih (fun x hx => h x (by simp [hx]))
    have h2 := h v (by simp)
    unfold farV at h2
    simp only [endV]
    split <;> omega
theorem endV_lt {first : Nat} {l : List PVt} (hf : first < 18446744073709551616) (h : ∀ v ∈ l, v.slot < 18446744073709551616 ∧ ¬ farV first v) : endV first l < 18446744073709551616 := by
  induction l with
  | nil => simpa [endV] using hf
  | cons v l ih =>
    have h1 := ih (fun x hx => h x (by simp [hx]))
    have h2 := h v (by simp)
    unfold farV at h2
    simp only [endV]
    split <;> omega
/-- What is proposed of a slot. -/
def propV (bal : Nat) (known : List PVt) (s : Nat) : PVt := ⟨s, bal, match lookV known s with | some v => v.val | none => []⟩
def propsTo (first bal : Nat) (known : List PVt) (n : Nat) : List PVt := (List.range n).map (fun i => propV bal known (first + i))
theorem propsTo_succ (first bal : Nat) (known : List PVt) (n : Nat) : propsTo first bal known (n + 1) = propsTo first bal known n ++ [propV bal known (first + n)] := by
  unfold propsTo
  rw [List.range_succ, List.map_append]
  rfl
theorem propsTo_len (first bal : Nat) (known : List PVt) (n : Nat) : (propsTo first bal known n).length = n := by simp [propsTo]
def PLd.props (l : PLd) : List PVt := propsTo l.first l.bal l.known (endV l.first l.known - l.first)
/-- It leads. -/
def PLd.lead (l : PLd) : PLd := { l with stage := 2, next := endV l.first l.known, opn := l.props.map fun v => ⟨v, []⟩ }
def PLd.tooFar (l : PLd) : Prop := ∃ v ∈ l.known, farV l.first v
instance (l : PLd) : Decidable l.tooFar := by unfold PLd.tooFar; infer_instance
/-- Behind a promise that was noted. -/
def PLd.tally (l : PLd) : PLd := if l.prom.length ≤ l.many / 2 then l else if l.tooFar then l.stop else l.lead
def PLd.tallyV (l : PLd) : List PVt := if l.prom.length ≤ l.many / 2 then [] else if l.tooFar then [] else l.props
def PLd.tallyB (l : PLd) : Bool := if l.prom.length ≤ l.many / 2 then false else if l.tooFar then false else true
def PLd.promise (l : PLd) (node : Int) (b low : Nat) (vs : List PVt) : PLd := if l.deaf node b then l else (l.note node.toNat low vs).tally
def PLd.promV (l : PLd) (node : Int) (b low : Nat) (vs : List PVt) : List PVt := if l.deaf node b then [] else (l.note node.toNat low vs).tallyV
def PLd.promB (l : PLd) (node : Int) (b low : Nat) (vs : List PVt) : Bool := if l.deaf node b then false else (l.note node.toNat low vs).tallyB

/-! A proposal. -/
def PLd.propE (l : PLd) : Nat := if l.stage ≠ 2 then 33 else if l.next = 18446744073709551615 then 37 else 0
def PLd.propX (l : PLd) (v : List UInt8) : PVt := if l.propE = 0 then ⟨l.next, l.bal, v⟩ else ⟨0, 0, []⟩
def PLd.propose (l : PLd) (v : List UInt8) : PLd := if l.propE = 0 then { l with next := l.next + 1, opn := l.opn ++ [⟨⟨l.next, l.bal, v⟩, []⟩] } else l

/-! A vote for one. -/
def addW (who : List Nat) (node : Nat) : List Nat := if node ∈ who then who else who ++ [node]
def PLd.mute (l : PLd) (node : Int) (b : Nat) : Prop := l.stage ≠ 2 ∨ b ≠ l.bal ∨ node < 0 ∨ (l.many : Int) ≤ node
instance (l : PLd) (node : Int) (b : Nat) : Decidable (l.mute node b) := by unfold PLd.mute; infer_instance
/-- One that is open, behind the vote. -/
def voteO (many node s : Nat) (x : POp) : Option POp := if x.v.slot ≠ s then some x else if many / 2 < (addW x.who node).length then none else some ⟨x.v, addW x.who node⟩
def PLd.vote (l : PLd) (node s : Nat) : List POp := l.opn.filterMap (voteO l.many node s)
/-- What it lets be chosen: the last one of the row that is. -/
def chosenO (many node s : Nat) : List POp → Option PVt
  | [] => none
  | x :: l => match chosenO many node s l with
    | some v => some v
    | none => if x.v.slot = s ∧ many / 2 < (addW x.who node).length then some x.v else none
theorem chosenO_snoc (many node s : Nat) (l : List POp) (x : POp) : chosenO many node s (l ++ [x]) = if x.v.slot = s ∧ many / 2 < (addW x.who node).length then some x.v else chosenO many node s l := by
  induction l with
  | nil => simp [chosenO]
  | cons y l ih =>
    simp only [List.cons_append, chosenO, ih]
    by_cases h : x.v.slot = s ∧ many / 2 < (addW x.who node).length
    · simp only [if_pos h]
    · simp only [if_neg h]
def PLd.accept (l : PLd) (node : Int) (b s : Nat) : PLd := if l.mute node b then l else { l with opn := l.vote node.toNat s }
def PLd.chosen (l : PLd) (node : Int) (b s : Nat) : Option PVt := if l.mute node b then none else chosenO l.many node.toNat s l.opn
def PLd.opens (l : PLd) : List PVt := l.opn.map POp.v
/-- A vote that is none. -/
def orZ : Option PVt → PVt
  | some v => v
  | none => ⟨0, 0, []⟩

/-! What holds of a leader. -/
structure PLd.good (l : PLd) : Prop where
  many1 : 1 ≤ l.many
  many2 : l.many ≤ 32
  stage : l.stage ≤ 2
  bal : l.bal < 18446744073709551616
  first : l.first < 18446744073709551616
  next : l.next < 18446744073709551616
  prom : l.prom.Nodup ∧ ∀ k ∈ l.prom, k < l.many
  known : ∀ v ∈ l.known, v.slot < 18446744073709551616 ∧ v.bal < 18446744073709551616 ∧ v.val.length ≤ 100000
  opn : l.opn.Pairwise (fun x y => x.v.slot < y.v.slot) ∧ ∀ x ∈ l.opn, x.v.slot < l.next ∧ x.v.bal = l.bal ∧ x.v.val.length ≤ 100000 ∧ x.who.Nodup ∧ (∀ k ∈ x.who, k < l.many) ∧ x.who.length ≤ l.many / 2
  idle : l.stage ≠ 2 → l.opn = []
theorem PLd.good.new {many : Nat} (h1 : 1 ≤ many) (h2 : many ≤ 32) : PLd.good { many := many } :=
  ⟨h1, h2, by simp, by simp, by simp, by simp, ⟨List.nodup_nil, fun k h => (by cases h)⟩, fun v h => (by cases h), ⟨List.Pairwise.nil, fun x h => (by cases h)⟩, fun _ => rfl⟩
theorem PLd.good.begin_ {l : PLd} (h : l.good) {b f : Nat} (hb : b < 18446744073709551616) (hf : f < 18446744073709551616) : (l.begin_ b f).good := by
  unfold PLd.begin_
  split
  · exact h
  · exact ⟨h.many1, h.many2, by simp, hb, hf, by simp, ⟨List.nodup_nil, fun k h => (by cases h)⟩, fun v h => (by cases h), ⟨List.Pairwise.nil, fun x h => (by cases h)⟩, fun _ => rfl⟩
theorem PLd.good.stop {l : PLd} (h : l.good) : l.stop.good :=
  ⟨h.many1, h.many2, by simp [PLd.stop], h.bal, h.first, h.next, h.prom, h.known, ⟨List.Pairwise.nil, fun x h => (by cases h)⟩, fun _ => rfl⟩
theorem PLd.good.note {l : PLd} (h : l.good) {node : Int} {b low : Nat} (hd : ¬ l.deaf node b) (hl : low < 18446744073709551616) {vs : List PVt} (hv : ∀ v ∈ vs, v.slot < 18446744073709551616 ∧ v.bal < 18446744073709551616 ∧ v.val.length ≤ 100000) : (l.note node.toNat low vs).good := by
  unfold PLd.deaf at hd
  have hst : l.stage = 1 := by omega
  refine ⟨h.many1, h.many2, h.stage, h.bal, ?_, h.next, ⟨?_, ?_⟩, ?_, h.opn, h.idle⟩
  · have := h.first
    show max l.first low < _
    omega
  · show (l.prom ++ [node.toNat]).Nodup
    refine List.nodup_append.2 ⟨h.prom.1, by simp, ?_⟩
    intro x hx y hy e
    simp at hy
    subst hy
    subst e
    exact hd (.inr (.inr (.inr (.inr hx))))
  · intro k hk
    replace hk : k ∈ l.prom ++ [node.toNat] := hk
    rcases List.mem_append.1 hk with hk | hk
    · exact h.prom.2 k hk
    · have := List.mem_singleton.1 hk
      show k < l.many
      omega
  · intro v hv2
    rcases noteVs_mem hv2 with hv2 | hv2
    · exact hv v hv2
    · exact h.known v hv2
theorem propV_val {bal s : Nat} {known : List PVt} (h : ∀ v ∈ known, v.val.length ≤ 100000) : (propV bal known s).val.length ≤ 100000 := by
  unfold propV
  cases hl : lookV known s with
  | none => simp
  | some v => exact h v (lookV_some hl).1
theorem PLd.good.lead {l : PLd} (h : l.good) (hf : ¬ l.tooFar) : l.lead.good := by
  have hno : ∀ v ∈ l.known, ¬ farV l.first v := fun v hv hfar => hf ⟨v, hv, hfar⟩
  have hend := endV_lt h.first (fun v hv => ⟨(h.known v hv).1, hno v hv⟩)
  refine ⟨h.many1, h.many2, by simp [PLd.lead], h.bal, h.first, hend, h.prom, h.known, ⟨?_, ?_⟩, fun h => absurd rfl h⟩
  · show List.Pairwise _ (l.props.map fun v => (⟨v, []⟩ : POp))
    unfold PLd.props propsTo
    rw [List.map_map, List.pairwise_map]
    refine List.pairwise_lt_range.imp (fun {a b} hab => ?_)
    show l.first + a < l.first + b
    omega
  · intro x hx
    replace hx : x ∈ l.props.map fun v => (⟨v, []⟩ : POp) := hx
    obtain ⟨v, hv, rfl⟩ := List.mem_map.1 hx
    unfold PLd.props propsTo at hv
    obtain ⟨i, hi, rfl⟩ := List.mem_map.1 hv
    rw [List.mem_range] at hi
    refine ⟨?_, rfl, propV_val (fun v hv => (h.known v hv).2.2), List.nodup_nil, fun k hk => (by cases hk), Nat.zero_le _⟩
    show l.first + i < endV l.first l.known
    omega
theorem PLd.good.tally {l : PLd} (h : l.good) : l.tally.good := by
  unfold PLd.tally
  split
  · exact h
  · split
    · exact h.stop
    · rename_i hf
      exact h.lead hf
theorem PLd.good.promise {l : PLd} (h : l.good) {node : Int} {b low : Nat} (hl : low < 18446744073709551616) {vs : List PVt} (hv : ∀ v ∈ vs, v.slot < 18446744073709551616 ∧ v.bal < 18446744073709551616 ∧ v.val.length ≤ 100000) : (l.promise node b low vs).good := by
  unfold PLd.promise
  split
  · exact h
  · rename_i hd
    exact (h.note hd hl hv).tally
theorem propE_zero {l : PLd} (h : l.propE = 0) : l.stage = 2 ∧ l.next ≠ 18446744073709551615 := by
  unfold PLd.propE at h
  split at h
  · cases h
  · split at h
    · cases h
    · omega
theorem PLd.good.propose {l : PLd} (h : l.good) {v : List UInt8} (hv : v.length ≤ 100000) : (l.propose v).good := by
  unfold PLd.propose
  split
  · rename_i he
    obtain ⟨h1, h2⟩ := propE_zero he
    have hn := h.next
    refine ⟨h.many1, h.many2, h.stage, h.bal, h.first, by show l.next + 1 < _; omega, h.prom, h.known, ⟨?_, ?_⟩, fun h => absurd h1 h⟩
    · refine List.pairwise_append.2 ⟨h.opn.1, List.pairwise_singleton _ _, ?_⟩
      intro x hx y hy
      rw [List.mem_singleton.1 hy]
      exact (h.opn.2 x hx).1
    · intro x hx
      rcases List.mem_append.1 hx with hx | hx
      · obtain ⟨g1, g2⟩ := h.opn.2 x hx
        exact ⟨by show x.v.slot < l.next + 1; omega, g2⟩
      · rw [List.mem_singleton.1 hx]
        exact ⟨by show l.next < l.next + 1; omega, rfl, hv, List.nodup_nil, fun k hk => (by cases hk), Nat.zero_le _⟩
  · exact h
theorem addW_nodup {who : List Nat} (h : who.Nodup) (node : Nat) : (addW who node).Nodup := by
  unfold addW
  split
  · exact h
  · rename_i hn
    refine List.nodup_append.2 ⟨h, by simp, ?_⟩
    intro x hx y hy e
    simp at hy
    subst hy
    subst e
    exact hn hx
theorem addW_mem {who : List Nat} {node k : Nat} (h : k ∈ addW who node) : k ∈ who ∨ k = node := by
  unfold addW at h
  split at h
  · exact .inl h
  · rcases List.mem_append.1 h with h | h
    · exact .inl h
    · exact .inr (List.mem_singleton.1 h)
theorem addW_len (who : List Nat) (node : Nat) : (addW who node).length ≤ who.length + 1 := by
  unfold addW
  split <;> simp
theorem voteO_some {many node s : Nat} {x y : POp} (h : voteO many node s x = some y) : y.v = x.v ∧ ((y.who = x.who ∧ x.v.slot ≠ s) ∨ (y.who = addW x.who node ∧ (addW x.who node).length ≤ many / 2)) := by
  unfold voteO at h
  split at h
  · rename_i hs
    injection h with h
    subst h
    exact ⟨rfl, .inl ⟨rfl, hs⟩⟩
  · split at h
    · cases h
    · injection h with h
      subst h
      exact ⟨rfl, .inr ⟨rfl, by omega⟩⟩
theorem PLd.good.accept {l : PLd} (h : l.good) (node : Int) (b s : Nat) : (l.accept node b s).good := by
  unfold PLd.accept
  split
  · exact h
  · rename_i hm
    unfold PLd.mute at hm
    refine ⟨h.many1, h.many2, h.stage, h.bal, h.first, h.next, h.prom, h.known, ⟨?_, ?_⟩, fun h => absurd (Or.inl h) hm⟩
    · show List.Pairwise _ (l.opn.filterMap (voteO l.many node.toNat s))
      rw [List.pairwise_filterMap]
      refine h.opn.1.imp (fun {a b} hab x hx y hy => ?_)
      rw [(voteO_some hx).1, (voteO_some hy).1]
      exact hab
    · intro y hy
      replace hy : y ∈ l.opn.filterMap (voteO l.many node.toNat s) := hy
      obtain ⟨x, hx, hxy⟩ := List.mem_filterMap.1 hy
      obtain ⟨g1, g2, g3, g4, g5, g6⟩ := h.opn.2 x hx
      obtain ⟨e1, e2⟩ := voteO_some hxy
      rw [e1]
      refine ⟨g1, g2, g3, ?_⟩
      rcases e2 with ⟨e2, _⟩ | ⟨e2, e3⟩
      · rw [e2]; exact ⟨g4, g5, g6⟩
      · rw [e2]
        refine ⟨addW_nodup g4 _, fun k hk => ?_, e3⟩
        rcases addW_mem hk with hk | hk
        · exact g5 k hk
        · show k < l.many
          omega
theorem PLd.note_opn (l : PLd) (node low : Nat) (vs : List PVt) : (l.note node low vs).opn = l.opn := rfl
end Go.Proofs.Ytpabbhhaagfoeaa
