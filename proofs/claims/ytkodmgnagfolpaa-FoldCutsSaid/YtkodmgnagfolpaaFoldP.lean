/- Texts laid as one: Fold0, Fold1, Fold2, Fold8. -/
import Derived.Test.YtkodmgnagfolpaaConf0
import Derived.Test.YtkodmgnagfolpaaVec0

section
/- What commands come to, in plain terms: shards, positions, what was told. No program. -/
namespace Go.Proofs.Ytkodmgnagfolpaa
set_option maxRecDepth 100000
set_option linter.unusedVariables false
set_option linter.unusedSimpArgs false

structure PH where
  segs : Int := 0
  lens : List Nat := []
  final : Bool := false
/-- A span of positions. -/
structure PP where
  pos : Nat
  sh : Int
  seg : Nat
  off : Nat
  many : Nat
structure PF where
  sh : Int → Option PH := fun _ => none
  L : List PP := []
  n : Nat := 0
  low : Nat := 0
  told : Nat → Nat → Option Int := fun _ _ => none

def upH (f : Int → Option PH) (k : Int) (h : PH) : Int → Option PH := fun i => if i = k then some h else f i
theorem upH_same (f : Int → Option PH) (k : Int) (h : PH) : upH f k h k = some h := by simp [upH]
theorem upH_ne {f : Int → Option PH} {k i : Int} {h : PH} (hi : i ≠ k) : upH f k h i = f i := by simp [upH, hi]

/-! To cut rows. -/
def rowE (s : PF) (r : PW) : Int :=
  match s.sh r.shard with
  | none => 30
  | some h => if h.final = true then 34 else if h.segs < (r.lens.length : Int) ∨ leB h.lens r.lens = false then 15 else 0
def rowsE (s : PF) : List PW → Int
  | [] => 0
  | r :: l => if rowE s r ≠ 0 then rowE s r else rowsE s l
/-- How many records are new, of the first j segments. -/
def newN (a b : List Nat) : Nat → Nat
  | 0 => 0
  | j + 1 => newN a b j + (vat b j - vat a j)
/-- The spans of the first j segments. -/
def newL (id : Int) (a b : List Nat) (n : Nat) : Nat → List PP
  | 0 => []
  | j + 1 => newL id a b n j ++ (if vat a j < vat b j then [⟨n + newN a b j, id, j, vat a j, vat b j - vat a j⟩] else [])
def putRow (s : PF) (r : PW) : PF :=
  match s.sh r.shard with
  | none => s
  | some h => { s with sh := upH s.sh r.shard { h with lens := r.lens }, L := s.L ++ newL r.shard h.lens r.lens s.n r.lens.length, n := s.n + newN h.lens r.lens r.lens.length }
def putRows (s : PF) (l : List PW) : PF := l.foldl putRow s
def cutF (s : PF) (l : List PW) : Int × PF :=
  if rowsE s l ≠ 0 then (rowsE s l, s) else if 18446744073709551616 ≤ (putRows s l).n then (37, s) else (0, putRows s l)

/-! What is applied. -/
def sealF (s : PF) (k : Int) : PF :=
  match s.sh k with
  | none => s
  | some h => { s with sh := upH s.sh k { h with final := true } }
def liveE (s : PF) (k : Int) : Int :=
  match s.sh k with
  | none => 30
  | some h => if h.final = true then 34 else 0
def doF (s : PF) (c : PC) : Int × PF :=
  if c.op = 1 then (if (s.sh c.shard).isSome = true then (31, s) else (0, { s with sh := upH s.sh c.shard { segs := c.segs } }))
  else if c.op = 2 then (if liveE s c.shard ≠ 0 then (liveE s c.shard, s) else if (cutF s c.rows).1 ≠ 0 then ((cutF s c.rows).1, s) else (0, sealF (cutF s c.rows).2 c.shard))
  else if c.op = 3 then (if s.n < c.pos then (36, s) else (0, { s with low := max s.low c.pos }))
  else if c.op = 4 then cutF s c.rows
  else (0, s)
def tell (s : PF) (a b : Nat) (e : Int) : PF := { s with told := fun x y => if x = a ∧ y = b then some e else s.told x y }
def applyF (s : PF) (c : PC) : Int × PF :=
  if chkC c ≠ 0 then (chkC c, s)
  else if c.client = 0 ∧ c.seq = 0 then doF s c
  else match s.told c.client c.seq with
    | some e => (e, s)
    | none => ((doF s c).1, tell (doF s c).2 c.client c.seq (doF s c).1)

/-! Where they lie. -/
def tot : List PP → Nat
  | [] => 0
  | p :: l => p.many + tot l
def cnt (h : Int) (g : Nat) : List PP → Nat
  | [] => 0
  | p :: l => (if p.sh = h ∧ p.seg = g then p.many else 0) + cnt h g l
theorem tot_append : ∀ a b : List PP, tot (a ++ b) = tot a + tot b
  | [], b => by simp [tot]
  | p :: a, b => by simp [tot, tot_append a b]; omega
theorem cnt_append (h : Int) (g : Nat) : ∀ a b : List PP, cnt h g (a ++ b) = cnt h g a + cnt h g b
  | [], b => by simp [cnt]
  | p :: a, b => by simp [cnt, cnt_append h g a b]; omega
theorem tot_snoc (a : List PP) (p : PP) : tot (a ++ [p]) = tot a + p.many := by rw [tot_append]; simp [tot]
theorem cnt_snoc (h : Int) (g : Nat) (a : List PP) (p : PP) : cnt h g (a ++ [p]) = cnt h g a + (if p.sh = h ∧ p.seg = g then p.many else 0) := by rw [cnt_append]; simp [cnt]
theorem cnt_le_tot (h : Int) (g : Nat) : ∀ l : List PP, cnt h g l ≤ tot l
  | [] => Nat.le_refl _
  | p :: l => by have := cnt_le_tot h g l; simp only [cnt, tot]; split <;> omega
theorem tot_take_le (l : List PP) (k : Nat) : tot (l.take k) ≤ tot l := by
  have := tot_append (l.take k) (l.drop k)
  rw [List.take_append_drop] at this; omega
theorem take_succ_pp {l : List PP} {i : Nat} (hi : i < l.length) : l.take (i + 1) = l.take i ++ [l[i]] := by
  rw [List.take_add_one]; simp [hi]
theorem tot_take_succ (l : List PP) {i : Nat} (hi : i < l.length) : tot (l.take (i + 1)) = tot (l.take i) + l[i].many := by rw [take_succ_pp hi, tot_snoc]
theorem tot_take_mono (l : List PP) {i j : Nat} (h : i ≤ j) : tot (l.take i) ≤ tot (l.take j) := by
  have := tot_take_le (l.take j) i
  rw [List.take_take, Nat.min_eq_left h] at this; exact this
theorem cnt_take_mono (h : Int) (g : Nat) (l : List PP) {i j : Nat} (hij : i ≤ j) : cnt h g (l.take i) ≤ cnt h g (l.take j) := by
  have := cnt_append h g ((l.take j).take i) ((l.take j).drop i)
  rw [List.take_append_drop, List.take_take, Nat.min_eq_left hij] at this; omega

/-- One behind the other, by position and in each segment. -/
def okL (l : List PP) : Prop := ∀ i, (h : i < l.length) → l[i].pos = tot (l.take i) ∧ l[i].off = cnt l[i].sh l[i].seg (l.take i) ∧ 0 < l[i].many
theorem okL_nil : okL [] := fun i h => by simp at h
theorem okL_snoc {l : List PP} {p : PP} (hl : okL l) (h1 : p.pos = tot l) (h2 : p.off = cnt p.sh p.seg l) (h3 : 0 < p.many) : okL (l ++ [p]) := by
  intro i hi
  rw [List.length_append, List.length_singleton] at hi
  rcases Nat.lt_or_ge i l.length with hlt | hge
  · rw [List.getElem_append_left hlt, List.take_append_of_le_length (by omega)]
    exact hl i hlt
  · have he : i = l.length := by omega
    subst he
    simp [h1, h2, h3]

structure PF.good (s : PF) : Prop where
  ids : ∀ i h, s.sh i = some h → (0 ≤ i ∧ i ≤ 7) ∧ (1 ≤ h.segs ∧ h.segs ≤ 4) ∧ isCut h.lens ∧ (h.lens.length : Int) ≤ h.segs
  ok : okL s.L
  n : s.n = tot s.L
  lens : ∀ i h, s.sh i = some h → ∀ g, vat h.lens g = cnt i g s.L
  none : ∀ i, s.sh i = none → ∀ g, cnt i g s.L = 0
  low : s.low ≤ s.n
  fit : s.n < 18446744073709551616

theorem good_new : ({} : PF).good := ⟨fun i h e => (by cases e), okL_nil, rfl, fun i h e => (by cases e), fun i e g => rfl, Nat.le_refl _, (by decide)⟩

/-! A row's spans. -/
theorem newN_le_of {a b : List Nat} : ∀ {i j : Nat}, i ≤ j → newN a b i ≤ newN a b j
  | i, 0, h => by have : i = 0 := by omega
                  subst this; exact Nat.le_refl _
  | i, j + 1, h => by
    rcases Nat.lt_or_ge i (j + 1) with hl | hg
    · have := newN_le_of (a := a) (b := b) (show i ≤ j by omega); simp only [newN]; omega
    · have : i = j + 1 := by omega
      subst this; exact Nat.le_refl _
theorem newL_spec {id : Int} {a b : List Nat} {l : List PP} (hl : okL l) (ha : ∀ g, vat a g = cnt id g l) (hab : ∀ g, vat a g ≤ vat b g) : ∀ j : Nat,
    okL (l ++ newL id a b (tot l) j) ∧ tot (l ++ newL id a b (tot l) j) = tot l + newN a b j
      ∧ ∀ i g, cnt i g (l ++ newL id a b (tot l) j) = if i = id ∧ g < j then vat b g else cnt i g l
  | 0 => by
    refine ⟨by simpa [newL] using hl, by simp [newL, newN], fun i g => by simp [newL]⟩
  | j + 1 => by
    obtain ⟨h1, h2, h3⟩ := newL_spec hl ha hab j
    have hj := hab j
    by_cases hlt : vat a j < vat b j
    · simp only [newL, newN, hlt, if_true, ← List.append_assoc]
      refine ⟨okL_snoc h1 (by rw [h2]) ?_ (by show 0 < vat b j - vat a j; omega), ?_, ?_⟩
      · show vat a j = cnt id j _
        rw [h3, if_neg (by omega), ha]
      · rw [tot_snoc, h2]; show _ + (vat b j - vat a j) = _; omega
      · intro i g
        rw [cnt_snoc, h3]
        show _ + (if id = i ∧ j = g then vat b j - vat a j else 0) = _
        by_cases hi : i = id
        · subst hi
          by_cases hg : j = g
          · subst hg
            rw [if_neg (show ¬(i = i ∧ j < j) from fun h => Nat.lt_irrefl _ h.2), if_pos (show i = i ∧ j = j from ⟨rfl, rfl⟩), if_pos (show i = i ∧ j < j + 1 from ⟨rfl, by omega⟩), ← ha]; omega
          · rw [if_neg (show ¬(i = i ∧ j = g) from fun h => hg h.2)]
            by_cases hgj : g < j
            · rw [if_pos (show i = i ∧ g < j from ⟨rfl, hgj⟩), if_pos (show i = i ∧ g < j + 1 from ⟨rfl, by omega⟩)]; rfl
            · rw [if_neg (show ¬(i = i ∧ g < j) from fun h => hgj h.2), if_neg (show ¬(i = i ∧ g < j + 1) from fun h => (by omega))]; rfl
        · rw [if_neg (show ¬(i = id ∧ g < j) from fun h => hi h.1), if_neg (show ¬(id = i ∧ j = g) from fun h => hi h.1.symm), if_neg (show ¬(i = id ∧ g < j + 1) from fun h => hi h.1)]; rfl
    · simp only [newL, newN, hlt, if_false, List.append_nil]
      have he : vat b j - vat a j = 0 := by omega
      refine ⟨h1, by rw [h2, he]; rfl, fun i g => ?_⟩
      rw [h3]
      by_cases hi : i = id
      · subst hi
        by_cases hg : g = j
        · subst hg
          rw [if_neg (by omega), if_pos ⟨rfl, by omega⟩, ← ha]; omega
        · by_cases hgj : g < j
          · rw [if_pos ⟨rfl, hgj⟩, if_pos ⟨rfl, by omega⟩]
          · rw [if_neg (by omega), if_neg (by omega)]
      · rw [if_neg (fun h => hi h.1), if_neg (fun h => hi h.1)]

/-- A state but for the bound of how many positions there are. -/
structure PF.goodL (s : PF) : Prop where
  ids : ∀ i h, s.sh i = some h → (0 ≤ i ∧ i ≤ 7) ∧ (1 ≤ h.segs ∧ h.segs ≤ 4) ∧ isCut h.lens ∧ (h.lens.length : Int) ≤ h.segs
  ok : okL s.L
  n : s.n = tot s.L
  lens : ∀ i h, s.sh i = some h → ∀ g, vat h.lens g = cnt i g s.L
  none : ∀ i, s.sh i = none → ∀ g, cnt i g s.L = 0
  low : s.low ≤ s.n
theorem PF.good.L' {s : PF} (h : s.good) : s.goodL := ⟨h.ids, h.ok, h.n, h.lens, h.none, h.low⟩
theorem PF.goodL.fits {s : PF} (h : s.goodL) (hf : s.n < 18446744073709551616) : s.good := ⟨h.ids, h.ok, h.n, h.lens, h.none, h.low, hf⟩

theorem rowE_zero {s : PF} {r : PW} : rowE s r = 0 ↔ ∃ h, s.sh r.shard = some h ∧ h.final = false ∧ (r.lens.length : Int) ≤ h.segs ∧ leB h.lens r.lens = true := by
  unfold rowE
  cases hs : s.sh r.shard with
  | none => simp
  | some h =>
    simp only [Option.some.injEq, exists_eq_left']
    cases hf : h.final
    · simp only [Bool.false_eq_true, if_false, true_and]
      cases hb : leB h.lens r.lens
      · simp
      · simp only [Bool.true_eq_false, or_false, and_true]
        split <;> constructor <;> intro _ <;> first | omega | (exfalso; omega) | skip
    · simp
theorem putRow_some {s : PF} {r : PW} {h : PH} (hs : s.sh r.shard = some h) : putRow s r = { s with sh := upH s.sh r.shard { h with lens := r.lens }, L := s.L ++ newL r.shard h.lens r.lens s.n r.lens.length, n := s.n + newN h.lens r.lens r.lens.length } := by
  unfold putRow; rw [hs]

theorem putRow_good {s : PF} {r : PW} (hg : s.goodL) (he : rowE s r = 0) (hc : isCut r.lens) : (putRow s r).goodL := by
  obtain ⟨h, hs, hf, hn, hle⟩ := rowE_zero.1 he
  have hle' := leB_iff.1 hle
  obtain ⟨h1, h2, h3⟩ := newL_spec (id := r.shard) (a := h.lens) (b := r.lens) hg.ok (hg.lens _ _ hs) hle' r.lens.length
  rw [← hg.n] at h1 h2 h3
  rw [putRow_some hs]
  refine ⟨?_, h1, h2.symm, ?_, ?_, ?_⟩
  · intro i q hq
    by_cases hi : i = r.shard
    · subst hi
      simp only [upH_same, Option.some.injEq] at hq
      subst hq
      obtain ⟨a, b, c, d⟩ := hg.ids _ _ hs
      exact ⟨a, b, hc, hn⟩
    · simp only [upH_ne hi] at hq
      exact hg.ids _ _ hq
  · intro i q hq g
    show _ = cnt i g (s.L ++ newL r.shard h.lens r.lens s.n r.lens.length)
    rw [h3]
    by_cases hi : i = r.shard
    · subst hi
      simp only [upH_same, Option.some.injEq] at hq
      subst hq
      by_cases hgl : g < r.lens.length
      · rw [if_pos ⟨rfl, hgl⟩]
      · rw [if_neg (fun h => hgl h.2)]
        have := hg.lens _ _ hs g
        have h4 := hle' g
        show vat r.lens g = _
        rw [vat_ge (xs := r.lens) (by omega)] at h4 ⊢
        omega
    · rw [if_neg (fun h => hi h.1)]
      simp only [upH_ne hi] at hq
      exact hg.lens _ _ hq g
  · intro i hq g
    show cnt i g (s.L ++ newL r.shard h.lens r.lens s.n r.lens.length) = 0
    rw [h3]
    by_cases hi : i = r.shard
    · subst hi; simp only [upH_same] at hq; cases hq
    · rw [if_neg (fun h => hi h.1)]
      simp only [upH_ne hi] at hq
      exact hg.none _ hq g
  · show s.low ≤ s.n + _
    have := hg.low; omega
theorem putRow_else {s : PF} {r : PW} {i : Int} (hi : i ≠ r.shard) : (putRow s r).sh i = s.sh i := by
  unfold putRow; cases h : s.sh r.shard with
  | none => rfl
  | some h => exact upH_ne hi
theorem rowE_else {s : PF} {r q : PW} (hi : q.shard ≠ r.shard) : rowE (putRow s r) q = rowE s q := by
  unfold rowE; rw [putRow_else hi]
theorem rowsE_mem {s : PF} : ∀ {l : List PW}, rowsE s l = 0 → ∀ r ∈ l, rowE s r = 0
  | [], _, r, h => by cases h
  | q :: l, h0, r, h => by
    simp only [rowsE] at h0
    split at h0
    · rename_i hne; exact absurd h0 hne
    · rename_i hz
      rcases List.mem_cons.1 h with e | h
      · subst e; exact Classical.not_not.1 hz
      · exact rowsE_mem h0 r h
theorem rowsE_of {s : PF} : ∀ {l : List PW}, (∀ r ∈ l, rowE s r = 0) → rowsE s l = 0
  | [], _ => rfl
  | q :: l, h => by
    simp only [rowsE]
    rw [if_neg (by simp [h q (List.mem_cons_self ..)])]
    exact rowsE_of fun r hr => h r (List.mem_cons_of_mem _ hr)
theorem rowsE_else {s : PF} {r : PW} {l : List PW} (hd : ∀ q ∈ l, q.shard ≠ r.shard) (h : rowsE s l = 0) : rowsE (putRow s r) l = 0 :=
  rowsE_of fun q hq => by rw [rowE_else (hd q hq)]; exact rowsE_mem h q hq
end Go.Proofs.Ytkodmgnagfolpaa
end

section
/- What is applied keeps what must be kept; what has a position keeps it; what is refused changes nothing. No program. -/
namespace Go.Proofs.Ytkodmgnagfolpaa
set_option maxRecDepth 100000
set_option linter.unusedVariables false
set_option linter.unusedSimpArgs false

theorem rowB_iff {r : PW} {b : Int} : rowB r b = true ↔ b < r.shard ∧ r.shard ≤ 7 ∧ r.lens.length ≤ 4 ∧ (r.lens.length = 0 ∨ r.lens.getLastD 0 ≠ 0) := by
  simp [rowB]
theorem getLastD_vat {xs : List Nat} {k : Nat} (h : xs.length = k + 1) : xs.getLastD 0 = vat xs k := by
  cases xs with
  | nil => simp at h
  | cons x r =>
    have hk : k = r.length := by simpa using h.symm
    subst hk
    rw [List.getLastD_eq_getLast?, List.getLast?_eq_getElem?]
    simp [vat, List.getD]
theorem rowB_cut {r : PW} {b : Int} (h : rowB r b = true) : isCut r.lens := by
  intro k hk
  obtain ⟨_, _, _, h4⟩ := rowB_iff.1 h
  rcases h4 with h4 | h4
  · omega
  · rwa [getLastD_vat hk] at h4
theorem rowsB_sep : ∀ {l : List PW} {b : Int}, rowsB l b = true → ∀ q ∈ l, b < q.shard
  | [], _, _, q, hq => by cases hq
  | r :: l, b, h, q, hq => by
    simp only [rowsB, Bool.and_eq_true] at h
    rcases List.mem_cons.1 hq with e | hq
    · subst e; exact (rowB_iff.1 h.1).1
    · have := rowsB_sep h.2 q hq
      have := (rowB_iff.1 h.1).1
      omega

/-! Rows, one after another. -/
theorem putRows_cons (s : PF) (r : PW) (l : List PW) : putRows s (r :: l) = putRows (putRow s r) l := rfl
theorem putRows_good : ∀ {l : List PW} {s : PF} {b : Int}, s.goodL → rowsB l b = true → rowsE s l = 0 → (putRows s l).goodL
  | [], s, b, hg, _, _ => hg
  | r :: l, s, b, hg, hb, he => by
    rw [putRows_cons]
    have hb' := hb
    simp only [rowsB, Bool.and_eq_true] at hb'
    have hm := rowsE_mem he
    refine putRows_good (putRow_good hg (hm r (List.mem_cons_self ..)) (rowB_cut hb'.1)) hb'.2 (rowsE_else (fun q hq => ?_) (rowsE_of fun q hq => hm q (List.mem_cons_of_mem _ hq)))
    have := rowsB_sep hb'.2 q hq
    omega

/-- What may be more than it was: what has a position keeps it. -/
structure PF.grows (s t : PF) : Prop where
  L : ∃ E, t.L = s.L ++ E
  sh : ∀ i h, s.sh i = some h → ∃ h', t.sh i = some h' ∧ h'.segs = h.segs ∧ leB h.lens h'.lens = true ∧ (h.final = true → h' = h)
  low : s.low ≤ t.low
theorem leB_refl (a : List Nat) : leB a a = true := leB_iff.2 fun i => Nat.le_refl _
theorem PF.grows.refl (s : PF) : s.grows s := ⟨⟨[], by simp⟩, fun i h e => ⟨h, e, rfl, leB_refl _, fun _ => rfl⟩, Nat.le_refl _⟩
theorem PF.grows.trans {s t u : PF} (h1 : s.grows t) (h2 : t.grows u) : s.grows u := by
  obtain ⟨E, hE⟩ := h1.L
  obtain ⟨F, hF⟩ := h2.L
  refine ⟨⟨E ++ F, by rw [hF, hE, List.append_assoc]⟩, fun i h e => ?_, Nat.le_trans h1.low h2.low⟩
  obtain ⟨h', a, b, c, d⟩ := h1.sh i h e
  obtain ⟨h'', a', b', c', d'⟩ := h2.sh i h' a
  refine ⟨h'', a', by rw [b', b], leB_iff.2 fun g => Nat.le_trans (leB_iff.1 c g) (leB_iff.1 c' g), fun hf => ?_⟩
  have := d hf
  subst this
  exact d' hf
theorem PF.grows.told {s t : PF} (h : s.grows t) (a b : Nat) (e : Int) : s.grows (tell t a b e) := ⟨h.L, h.sh, h.low⟩
theorem putRow_grows {s : PF} {r : PW} (he : rowE s r = 0) : s.grows (putRow s r) ∧ (putRow s r).low = s.low ∧ (putRow s r).told = s.told ∧ s.n ≤ (putRow s r).n := by
  obtain ⟨h, hs, hf, hn, hle⟩ := rowE_zero.1 he
  rw [putRow_some hs]
  refine ⟨⟨⟨_, rfl⟩, fun i q hq => ?_, Nat.le_refl _⟩, rfl, rfl, Nat.le_add_right _ _⟩
  by_cases hi : i = r.shard
  · subst hi
    rw [hs] at hq
    injection hq with hq
    subst hq
    exact ⟨_, upH_same _ _ _, rfl, hle, fun h' => by rw [hf] at h'; cases h'⟩
  · exact ⟨q, by rw [← hq]; exact upH_ne hi, rfl, leB_refl _, fun _ => rfl⟩
theorem putRows_grows : ∀ {l : List PW} {s : PF} {b : Int}, rowsB l b = true → rowsE s l = 0 → s.grows (putRows s l) ∧ (putRows s l).low = s.low ∧ (putRows s l).told = s.told ∧ s.n ≤ (putRows s l).n
  | [], s, b, _, _ => ⟨PF.grows.refl s, rfl, rfl, Nat.le_refl _⟩
  | r :: l, s, b, hb, he => by
    rw [putRows_cons]
    have hb' := hb
    simp only [rowsB, Bool.and_eq_true] at hb'
    have hm := rowsE_mem he
    obtain ⟨h1, h2, h3, h4⟩ := putRow_grows (hm r (List.mem_cons_self ..))
    obtain ⟨g1, g2, g3, g4⟩ := putRows_grows (l := l) (s := putRow s r) hb'.2 (rowsE_else (fun q hq => by have := rowsB_sep hb'.2 q hq; omega) (rowsE_of fun q hq => hm q (List.mem_cons_of_mem _ hq)))
    exact ⟨h1.trans g1, by rw [g2, h2], by rw [g3, h3], Nat.le_trans h4 g4⟩

/-! What a step must keep. -/
structure Step (s : PF) (r : Int × PF) : Prop where
  good : r.2.good
  grows : s.grows r.2
  told : r.2.told = s.told
  bad : r.1 ≠ 0 → r.2 = s
theorem Step.same {s : PF} (hg : s.good) (e : Int) : Step s (e, s) := ⟨hg, PF.grows.refl s, rfl, fun _ => rfl⟩
theorem cutF_step {s : PF} {l : List PW} {b : Int} (hg : s.good) (hb : rowsB l b = true) : Step s (cutF s l) := by
  unfold cutF
  split
  · exact .same hg _
  · rename_i he
    have he : rowsE s l = 0 := Classical.not_not.1 he
    obtain ⟨h1, h2, h3, h4⟩ := putRows_grows hb he
    split
    · exact .same hg _
    · rename_i hn
      exact ⟨(putRows_good hg.L' hb he).fits (by omega), h1, h3, fun h => absurd rfl h⟩
theorem liveE_zero {s : PF} {k : Int} : liveE s k = 0 ↔ ∃ h, s.sh k = some h ∧ h.final = false := by
  unfold liveE
  cases hs : s.sh k with
  | none => simp
  | some h => cases hf : h.final <;> simp [hf]
theorem sealF_good {s : PF} {k : Int} (hg : s.good) : (sealF s k).good := by
  unfold sealF
  cases hs : s.sh k with
  | none => exact hg
  | some h =>
    refine ⟨fun i q hq => ?_, hg.ok, hg.n, fun i q hq => ?_, fun i hq => ?_, hg.low, hg.fit⟩
    · by_cases hi : i = k
      · subst hi; simp only [upH_same, Option.some.injEq] at hq; subst hq; exact hg.ids i h hs
      · simp only [upH_ne hi] at hq; exact hg.ids _ _ hq
    · by_cases hi : i = k
      · subst hi; simp only [upH_same, Option.some.injEq] at hq; subst hq; exact hg.lens i h hs
      · simp only [upH_ne hi] at hq; exact hg.lens _ _ hq
    · by_cases hi : i = k
      · subst hi; simp only [upH_same] at hq; cases hq
      · simp only [upH_ne hi] at hq; exact hg.none _ hq
theorem sealF_grows {s : PF} {k : Int} (hl : ∀ h, s.sh k = some h → h.final = false) : s.grows (sealF s k) ∧ (sealF s k).told = s.told := by
  unfold sealF
  cases hs : s.sh k with
  | none => exact ⟨PF.grows.refl s, rfl⟩
  | some h =>
    refine ⟨⟨⟨[], by simp⟩, fun i q hq => ?_, Nat.le_refl _⟩, rfl⟩
    by_cases hi : i = k
    · subst hi
      rw [hs] at hq; injection hq with hq; subst hq
      exact ⟨_, upH_same _ _ _, rfl, leB_refl _, fun hf => by rw [hl h hs] at hf; cases hf⟩
    · exact ⟨q, by rw [← hq]; exact upH_ne hi, rfl, leB_refl _, fun _ => rfl⟩
/-- A cut finishes no shard. -/
theorem putRow_final {s : PF} {r : PW} {k : Int} {h' : PH} (hs : (putRow s r).sh k = some h') : ∃ h, s.sh k = some h ∧ h'.final = h.final := by
  by_cases hk : k = r.shard
  · subst hk
    cases hq : s.sh r.shard with
    | none => unfold putRow at hs; rw [hq] at hs; simp only [hq] at hs; cases hs
    | some h =>
      rw [putRow_some hq] at hs
      simp only [upH_same, Option.some.injEq] at hs
      exact ⟨h, rfl, by rw [← hs]⟩
  · rw [putRow_else hk] at hs; exact ⟨h', hs, rfl⟩
theorem putRows_final : ∀ {l : List PW} {s : PF} {k : Int} {h' : PH}, (putRows s l).sh k = some h' → ∃ h, s.sh k = some h ∧ h'.final = h.final
  | [], s, k, h', hs => ⟨h', hs, rfl⟩
  | r :: l, s, k, h', hs => by
    obtain ⟨h1, a, b⟩ := putRows_final (l := l) (s := putRow s r) hs
    obtain ⟨h2, c, d⟩ := putRow_final a
    exact ⟨h2, c, b.trans d⟩
theorem cutF_final {s : PF} {l : List PW} {k : Int} {h' : PH} (hs : (cutF s l).2.sh k = some h') : ∃ h, s.sh k = some h ∧ h'.final = h.final := by
  unfold cutF at hs
  split at hs
  · exact ⟨h', hs, rfl⟩
  · split at hs
    · exact ⟨h', hs, rfl⟩
    · exact putRows_final hs

theorem doF_step {s : PF} {c : PC} (hg : s.good) (hc : chkC c = 0) : Step s (doF s c) := by
  obtain ⟨hb, ho⟩ := chkC_zero.1 hc
  unfold doF
  split
  · rename_i h1
    split
    · exact .same hg _
    · rename_i hn
      have hn : s.sh c.shard = none := by
        cases h : s.sh c.shard with
        | none => rfl
        | some q => rw [h] at hn; exact absurd rfl hn
      simp only [opB, h1] at ho
      simp at ho
      refine ⟨⟨fun i q hq => ?_, hg.ok, hg.n, fun i q hq g => ?_, fun i hq => ?_, hg.low, hg.fit⟩, ⟨⟨[], by simp⟩, fun i q hq => ?_, Nat.le_refl _⟩, rfl, fun h => absurd rfl h⟩
      · by_cases hi : i = c.shard
        · subst hi; simp only [upH_same, Option.some.injEq] at hq; subst hq
          exact ⟨⟨ho.1, ho.2.1⟩, ⟨ho.2.2.1, ho.2.2.2.1⟩, isCut_nil, by show ((0 : Nat) : Int) ≤ c.segs; omega⟩
        · simp only [upH_ne hi] at hq; exact hg.ids _ _ hq
      · by_cases hi : i = c.shard
        · subst hi; simp only [upH_same, Option.some.injEq] at hq; subst hq
          show vat [] g = cnt _ _ s.L
          rw [vat_nil, hg.none _ hn]
        · simp only [upH_ne hi] at hq; exact hg.lens _ _ hq g
      · by_cases hi : i = c.shard
        · subst hi; simp only [upH_same] at hq; cases hq
        · simp only [upH_ne hi] at hq; exact hg.none _ hq
      · have hi : i ≠ c.shard := fun h => by subst h; rw [hn] at hq; cases hq
        exact ⟨q, by rw [← hq]; exact upH_ne hi, rfl, leB_refl _, fun _ => rfl⟩
  · split
    · split
      · exact .same hg _
      · rename_i hl
        obtain ⟨h, hs, hf⟩ := liveE_zero.1 (Classical.not_not.1 hl)
        have hst := cutF_step (l := c.rows) hg hb
        split
        · exact .same hg _
        · have hl : ∀ q, (cutF s c.rows).2.sh c.shard = some q → q.final = false := fun q hq => by
            obtain ⟨h', a, b⟩ := cutF_final hq
            rw [hs] at a; injection a with a; subst a; rw [b, hf]
          obtain ⟨g1, g2⟩ := sealF_grows hl
          exact ⟨sealF_good hst.good, hst.grows.trans g1, g2.trans hst.told, fun h => absurd rfl h⟩
    · split
      · split
        · exact .same hg _
        · rename_i hp
          refine ⟨⟨hg.ids, hg.ok, hg.n, hg.lens, hg.none, ?_, hg.fit⟩, ⟨⟨[], by simp⟩, (PF.grows.refl s).sh, Nat.le_max_left _ _⟩, rfl, fun h => absurd rfl h⟩
          have := hg.low
          show max s.low c.pos ≤ s.n
          omega
      · split
        · exact cutF_step hg hb
        · exact .same hg _

theorem tell_good {s : PF} (h : s.good) (a b : Nat) (e : Int) : (tell s a b e).good := ⟨h.ids, h.ok, h.n, h.lens, h.none, h.low, h.fit⟩
/-- All but what was told. -/
structure PF.alike (s t : PF) : Prop where
  sh : t.sh = s.sh
  L : t.L = s.L
  n : t.n = s.n
  low : t.low = s.low
theorem apply_good {s : PF} (hg : s.good) (c : PC) : (applyF s c).2.good := by
  unfold applyF
  split
  · exact hg
  · rename_i hc
    have hc := Classical.not_not.1 hc
    split
    · exact (doF_step hg hc).good
    · split
      · exact hg
      · exact tell_good (doF_step hg hc).good _ _ _
theorem apply_grows {s : PF} (hg : s.good) (c : PC) : s.grows (applyF s c).2 := by
  unfold applyF
  split
  · exact PF.grows.refl s
  · rename_i hc
    have hc := Classical.not_not.1 hc
    split
    · exact (doF_step hg hc).grows
    · split
      · exact PF.grows.refl s
      · exact (doF_step hg hc).grows.told _ _ _
/-- What is refused changes nothing but what was told. -/
theorem apply_bad {s : PF} (hg : s.good) {c : PC} (he : (applyF s c).1 ≠ 0) : s.alike (applyF s c).2 := by
  unfold applyF at he ⊢
  split
  · exact ⟨rfl, rfl, rfl, rfl⟩
  · rename_i hc
    rw [if_neg hc] at he
    have hc := Classical.not_not.1 hc
    split
    · rename_i hw
      rw [if_pos hw] at he
      rw [(doF_step hg hc).bad he]; exact ⟨rfl, rfl, rfl, rfl⟩
    · rename_i hw
      rw [if_neg hw] at he
      cases ht : s.told c.client c.seq with
      | some e => exact ⟨rfl, rfl, rfl, rfl⟩
      | none =>
        rw [ht] at he
        have := (doF_step hg hc).bad he
        simp only [this]
        exact ⟨rfl, rfl, rfl, rfl⟩
theorem grows_n {s t : PF} (hs : s.good) (ht : t.good) (h : s.grows t) : s.n ≤ t.n := by
  obtain ⟨E, hE⟩ := h.L
  rw [hs.n, ht.n, hE, tot_append]; omega

/-! One row of commands without those that were refused. -/
structure PF.less (s t : PF) : Prop where
  same : s.alike t
  told : ∀ a b, t.told a b = if s.told a b = some 0 then some 0 else none
theorem rowE_alike {s t : PF} (h : s.alike t) (r : PW) : rowE t r = rowE s r := by unfold rowE; rw [h.sh]
theorem rowsE_alike {s t : PF} (h : s.alike t) : ∀ l : List PW, rowsE t l = rowsE s l
  | [] => rfl
  | r :: l => by simp only [rowsE, rowE_alike h, rowsE_alike h l]
theorem putRow_alike {s t : PF} (h : s.alike t) (r : PW) : (putRow s r).alike (putRow t r) := by
  unfold putRow; rw [h.sh]
  cases hs : s.sh r.shard with
  | none => exact h
  | some q => exact ⟨by simp only [h.sh], by simp only [h.L, h.n], by simp only [h.n], h.low⟩
theorem putRows_alike : ∀ (l : List PW) {s t : PF}, s.alike t → (putRows s l).alike (putRows t l)
  | [], _, _, h => h
  | r :: l, _, _, h => putRows_alike l (putRow_alike h r)
theorem cutF_alike {s t : PF} (h : s.alike t) (l : List PW) : (cutF t l).1 = (cutF s l).1 ∧ (cutF s l).2.alike (cutF t l).2 := by
  unfold cutF
  rw [rowsE_alike h, (putRows_alike l h).n]
  split
  · exact ⟨rfl, h⟩
  · split
    · exact ⟨rfl, h⟩
    · exact ⟨rfl, putRows_alike l h⟩
theorem sealF_alike {s t : PF} (h : s.alike t) (k : Int) : (sealF s k).alike (sealF t k) := by
  unfold sealF; rw [h.sh]
  cases hs : s.sh k with
  | none => exact h
  | some q => exact ⟨by simp only [h.sh], h.L, h.n, h.low⟩
theorem doF_alike {s t : PF} (h : s.alike t) (c : PC) : (doF t c).1 = (doF s c).1 ∧ (doF s c).2.alike (doF t c).2 := by
  have hl : liveE t c.shard = liveE s c.shard := by unfold liveE; rw [h.sh]
  obtain ⟨h1, h2⟩ := cutF_alike h c.rows
  unfold doF
  rw [h.sh, hl, h1, h.n]
  split
  · split
    · exact ⟨rfl, h⟩
    · exact ⟨rfl, rfl, h.L, rfl, h.low⟩
  · split
    · split
      · exact ⟨rfl, h⟩
      · split
        · exact ⟨rfl, h⟩
        · exact ⟨rfl, sealF_alike h2 _⟩
    · split
      · split
        · exact ⟨rfl, h⟩
        · exact ⟨rfl, rfl, h.L, rfl, by simp only [h.low]⟩
      · split
        · exact ⟨h1, h2⟩
        · exact ⟨rfl, h⟩
theorem less_bad {s t : PF} (hg : s.good) (h : s.less t) {c : PC} (he : (applyF s c).1 ≠ 0) : (applyF s c).2.less t := by
  have ha := apply_bad hg he
  refine ⟨⟨h.same.sh.trans ha.sh.symm, h.same.L.trans ha.L.symm, h.same.n.trans ha.n.symm, h.same.low.trans ha.low.symm⟩, fun a b => ?_⟩
  rw [h.told]
  suffices hk : ((applyF s c).2.told a b = some 0 ↔ s.told a b = some 0) by simp only [hk]
  unfold applyF at he ⊢
  by_cases hc : chkC c ≠ 0
  · rw [if_pos hc]
  · rw [if_neg hc] at he ⊢
    have hc := Classical.not_not.1 hc
    by_cases hw : c.client = 0 ∧ c.seq = 0
    · rw [if_pos hw] at he ⊢
      rw [(doF_step hg hc).told]
    · rw [if_neg hw] at he ⊢
      cases ht : s.told c.client c.seq with
      | some e => exact Iff.rfl
      | none =>
        rw [ht] at he
        simp only [tell, (doF_step hg hc).told]
        by_cases hab : a = c.client ∧ b = c.seq
        · rw [if_pos hab, hab.1, hab.2, ht]
          have : (doF s c).1 ≠ 0 := he
          simp [this]
        · rw [if_neg hab]
theorem less_good {s t : PF} (hg : s.good) (hgt : t.good) (h : s.less t) {c : PC} (he : (applyF s c).1 = 0) : (applyF t c).1 = 0 ∧ (applyF s c).2.less (applyF t c).2 := by
  obtain ⟨h1, h2⟩ := doF_alike h.same c
  unfold applyF at he ⊢
  split
  · rename_i hc
    rw [if_pos hc] at he
    exact absurd he hc
  · rename_i hc
    rw [if_neg hc] at he
    have hc := Classical.not_not.1 hc
    split
    · rename_i hw
      rw [if_pos hw] at he
      refine ⟨h1.trans he, h2, fun a b => ?_⟩
      rw [(doF_step hgt hc).told, (doF_step hg hc).told]; exact h.told a b
    · rename_i hw
      rw [if_neg hw] at he
      have htt := h.told c.client c.seq
      cases ht : s.told c.client c.seq with
      | some e =>
        rw [ht] at he htt
        have he : e = 0 := he
        subst he
        simp only [if_true] at htt
        rw [htt]; exact ⟨rfl, h⟩
      | none =>
        rw [ht] at he htt
        have he : (doF s c).1 = 0 := he
        have htt : t.told c.client c.seq = none := by rw [htt]; simp
        rw [htt]
        refine ⟨h1.trans he, ⟨h2.sh, h2.L, h2.n, h2.low⟩, fun a b => ?_⟩
        simp only [tell, (doF_step hg hc).told, (doF_step hgt hc).told, h1, he]
        by_cases hab : a = c.client ∧ b = c.seq
        · simp [hab]
        · rw [if_neg hab, if_neg hab]; exact h.told a b
end Go.Proofs.Ytkodmgnagfolpaa
end

section
/- Each position has one record, each record one position; how many there are. No program. -/
namespace Go.Proofs.Ytkodmgnagfolpaa
set_option maxRecDepth 100000
set_option linter.unusedVariables false
set_option linter.unusedSimpArgs false

/-- A span has the position p. -/
def PP.at (q : PP) (p : Nat) : Prop := q.pos ≤ p ∧ p < q.pos + q.many
/-- A span has the record o of a segment. -/
def PP.has (q : PP) (h : Int) (g o : Nat) : Prop := q.sh = h ∧ q.seg = g ∧ q.off ≤ o ∧ o < q.off + q.many

theorem okL_end {l : List PP} (hl : okL l) {i : Nat} (hi : i < l.length) : l[i].pos + l[i].many = tot (l.take (i + 1)) := by
  rw [tot_take_succ l hi, (hl i hi).1]
theorem okL_before {l : List PP} (hl : okL l) {i j : Nat} (hij : i < j) (hj : j < l.length) : l[i].pos + l[i].many ≤ l[j].pos := by
  rw [okL_end hl (by omega), (hl j hj).1]; exact tot_take_mono l hij
theorem okL_off {l : List PP} (hl : okL l) {i j : Nat} (hij : i < j) (hj : j < l.length) (h1 : l[i].sh = l[j].sh) (h2 : l[i].seg = l[j].seg) : l[i].off + l[i].many ≤ l[j].off := by
  rw [(hl j hj).2.1, (hl i (by omega)).2.1]
  have := cnt_take_mono l[j].sh l[j].seg l (show i + 1 ≤ j from hij)
  rw [take_succ_pp (show i < l.length by omega), cnt_snoc, if_pos ⟨h1, h2⟩] at this
  rw [h1, h2]; exact this
theorem okL_fit {l : List PP} (hl : okL l) {i : Nat} (hi : i < l.length) : l[i].pos + l[i].many ≤ tot l := by
  rw [okL_end hl hi]; exact tot_take_le l _
theorem at_one {l : List PP} (hl : okL l) {p i j : Nat} (hi : i < l.length) (hj : j < l.length) (h1 : l[i].at p) (h2 : l[j].at p) : i = j := by
  rcases Nat.lt_trichotomy i j with h | h | h
  · have := okL_before hl h hj; unfold PP.at at h1 h2; omega
  · exact h
  · have := okL_before hl h hi; unfold PP.at at h1 h2; omega
theorem has_one {l : List PP} (hl : okL l) {h : Int} {g o i j : Nat} (hi : i < l.length) (hj : j < l.length) (h1 : l[i].has h g o) (h2 : l[j].has h g o) : i = j := by
  obtain ⟨a1, b1, c1, d1⟩ := h1
  obtain ⟨a2, b2, c2, d2⟩ := h2
  rcases Nat.lt_trichotomy i j with hh | hh | hh
  · have := okL_off hl hh hj (by rw [a1, a2]) (by rw [b1, b2]); omega
  · exact hh
  · have := okL_off hl hh hi (by rw [a1, a2]) (by rw [b1, b2]); omega
theorem at_some {l : List PP} (hl : okL l) {p : Nat} : ∀ k : Nat, k ≤ l.length → p < tot (l.take k) → ∃ i, ∃ h : i < l.length, l[i].at p
  | 0, _, h => by simp [tot] at h
  | k + 1, hk, h => by
    have hk' : k < l.length := hk
    rcases Nat.lt_or_ge p (tot (l.take k)) with hlt | hge
    · exact at_some hl k (by omega) hlt
    · refine ⟨k, hk', ?_⟩
      rw [tot_take_succ l hk'] at h
      unfold PP.at
      rw [(hl k hk').1]; omega
theorem at_ex {l : List PP} (hl : okL l) {p : Nat} (h : p < tot l) : ∃ i, ∃ hi : i < l.length, l[i].at p :=
  at_some hl l.length (Nat.le_refl _) (by rwa [List.take_length])
theorem has_some {l : List PP} (hl : okL l) {h : Int} {g o : Nat} : ∀ k : Nat, k ≤ l.length → o < cnt h g (l.take k) → ∃ i, ∃ hi : i < l.length, l[i].has h g o
  | 0, _, h0 => by simp [cnt] at h0
  | k + 1, hk, h0 => by
    have hk' : k < l.length := hk
    rcases Nat.lt_or_ge o (cnt h g (l.take k)) with hlt | hge
    · exact has_some hl k (by omega) hlt
    · rw [take_succ_pp hk', cnt_snoc] at h0
      by_cases hm : l[k].sh = h ∧ l[k].seg = g
      · rw [if_pos hm] at h0
        refine ⟨k, hk', hm.1, hm.2, ?_⟩
        have := (hl k hk').2.1
        rw [hm.1, hm.2] at this
        omega
      · rw [if_neg hm] at h0; omega
theorem has_ex {l : List PP} (hl : okL l) {h : Int} {g o : Nat} (h0 : o < cnt h g l) : ∃ i, ∃ hi : i < l.length, l[i].has h g o :=
  has_some hl l.length (Nat.le_refl _) (by rwa [List.take_length])
theorem cnt_mem {h : Int} {g : Nat} : ∀ {l : List PP}, (∀ q ∈ l, 0 < q.many) → (∃ q ∈ l, q.sh = h ∧ q.seg = g) → 0 < cnt h g l
  | [], _, h0 => by obtain ⟨q, hq, _⟩ := h0; cases hq
  | p :: l, hp, h0 => by
    obtain ⟨q, hq, hm⟩ := h0
    simp only [cnt]
    rcases List.mem_cons.1 hq with e | hq
    · subst e
      rw [if_pos hm]; have := hp q (List.mem_cons_self ..); omega
    · have := cnt_mem (fun q hq => hp q (List.mem_cons_of_mem _ hq)) ⟨q, hq, hm⟩; omega
theorem okL_pos {l : List PP} (hl : okL l) : ∀ q ∈ l, 0 < q.many := fun q hq => by
  obtain ⟨i, hi, e⟩ := List.getElem_of_mem hq
  rw [← e]; exact (hl i hi).2.2
/-- Where a span may lie. -/
theorem good_span {s : PF} (hg : s.good) {i : Nat} (hi : i < s.L.length) : ∃ h, s.sh s.L[i].sh = some h ∧ (0 ≤ s.L[i].sh ∧ s.L[i].sh ≤ 7) ∧ s.L[i].seg < h.lens.length ∧ h.lens.length ≤ 4 ∧ (h.lens.length : Int) ≤ h.segs ∧ s.L[i].off + s.L[i].many ≤ vat h.lens s.L[i].seg := by
  have hc : s.L[i].off + s.L[i].many ≤ cnt s.L[i].sh s.L[i].seg s.L := by
    have h1 := cnt_take_mono s.L[i].sh s.L[i].seg s.L (show i + 1 ≤ s.L.length from hi)
    rw [List.take_length, take_succ_pp hi, cnt_snoc, if_pos ⟨rfl, rfl⟩] at h1
    rw [(hg.ok i hi).2.1]; exact h1
  have hp := (hg.ok i hi).2.2
  cases hs : s.sh s.L[i].sh with
  | none => have := hg.none _ hs s.L[i].seg; omega
  | some h =>
    obtain ⟨a, b, c, d⟩ := hg.ids _ _ hs
    have hv := hg.lens _ _ hs s.L[i].seg
    refine ⟨h, rfl, a, ?_, by omega, d, by omega⟩
    rcases Nat.lt_or_ge s.L[i].seg h.lens.length with hlt | hge
    · exact hlt
    · rw [vat_ge hge] at hv; omega

/-! How many records of a segment have positions below p. -/
def cntAt (h : Int) (g p : Nat) : List PP → Nat
  | [] => 0
  | q :: l => (if q.sh = h ∧ q.seg = g then min q.many (p - q.pos) else 0) + cntAt h g p l
theorem cntAt_append (h : Int) (g p : Nat) : ∀ a b : List PP, cntAt h g p (a ++ b) = cntAt h g p a + cntAt h g p b
  | [], b => by simp [cntAt]
  | q :: a, b => by simp [cntAt, cntAt_append h g p a b]; omega
theorem cntAt_full {h : Int} {g p : Nat} : ∀ {l : List PP}, (∀ q ∈ l, q.pos + q.many ≤ p) → cntAt h g p l = cnt h g l
  | [], _ => rfl
  | q :: l, hq => by
    have := hq q (List.mem_cons_self ..)
    simp only [cntAt, cnt, cntAt_full fun q' h' => hq q' (List.mem_cons_of_mem _ h')]
    split <;> omega
theorem cntAt_none {h : Int} {g p : Nat} : ∀ {l : List PP}, (∀ q ∈ l, p ≤ q.pos) → cntAt h g p l = 0
  | [], _ => rfl
  | q :: l, hq => by
    have := hq q (List.mem_cons_self ..)
    simp only [cntAt, cntAt_none fun q' h' => hq q' (List.mem_cons_of_mem _ h')]
    split <;> omega
theorem cntAt_zero (h : Int) (g : Nat) (l : List PP) : cntAt h g 0 l = 0 := cntAt_none fun q _ => Nat.zero_le _
theorem cntAt_at {l : List PP} (hl : okL l) {h : Int} {g p i : Nat} (hi : i < l.length) (h1 : l[i].pos ≤ p) (h2 : p ≤ l[i].pos + l[i].many) :
    cntAt h g p l = cnt h g (l.take i) + (if l[i].sh = h ∧ l[i].seg = g then p - l[i].pos else 0) := by
  have hd : l = l.take i ++ (l[i] :: l.drop (i + 1)) := by rw [List.getElem_cons_drop, List.take_append_drop]
  have e1 : cntAt h g p (l.take i) = cnt h g (l.take i) := by
    refine cntAt_full fun q hq => ?_
    obtain ⟨j, hj, e⟩ := List.getElem_of_mem hq
    rw [List.length_take] at hj
    rw [List.getElem_take] at e
    subst e
    have := okL_before hl (show j < i by omega) hi
    omega
  have e2 : cntAt h g p (l.drop (i + 1)) = 0 := by
    refine cntAt_none fun q hq => ?_
    obtain ⟨j, hj, e⟩ := List.getElem_of_mem hq
    rw [List.length_drop] at hj
    rw [List.getElem_drop] at e
    subst e
    have := okL_before hl (show i < i + 1 + j by omega) (by omega)
    omega
  have e3 : cntAt h g p l = cntAt h g p (l.take i ++ (l[i] :: l.drop (i + 1))) := congrArg _ hd
  rw [e3, cntAt_append, e1]
  simp only [cntAt, e2]
  split <;> omega
/-- The record of a position, and how many there are ahead of it. -/
theorem dense_one {s : PF} (hg : s.good) {p : Nat} (hp : p < s.n) : ∃ i, ∃ hi : i < s.L.length, s.L[i].at p
    ∧ s.L[i].off + (p - s.L[i].pos) = cntAt s.L[i].sh s.L[i].seg p s.L
    ∧ (∀ h g, cntAt h g (p + 1) s.L = cntAt h g p s.L + (if s.L[i].sh = h ∧ s.L[i].seg = g then 1 else 0)) := by
  obtain ⟨i, hi, ha⟩ := at_ex hg.ok (by rw [← hg.n]; exact hp)
  refine ⟨i, hi, ha, ?_, fun h g => ?_⟩
  · rw [cntAt_at hg.ok hi ha.1 (Nat.le_of_lt ha.2), if_pos ⟨rfl, rfl⟩, ← (hg.ok i hi).2.1]
  · have h1 := ha.1
    have h2 := ha.2
    rw [cntAt_at hg.ok hi h1 (Nat.le_of_lt h2), cntAt_at hg.ok hi (show s.L[i].pos ≤ p + 1 by omega) (by omega)]
    split <;> omega
/-- The place of a position's record is that position. -/
theorem place_one {s : PF} (hg : s.good) {p i j : Nat} (hi : i < s.L.length) (hj : j < s.L.length) (ha : s.L[i].at p) (hh : s.L[j].has s.L[i].sh s.L[i].seg (s.L[i].off + (p - s.L[i].pos))) : s.L[j].pos + (s.L[i].off + (p - s.L[i].pos) - s.L[j].off) = p := by
  have h1 := ha.1
  have h2 := ha.2
  have := has_one hg.ok hj hi hh ⟨rfl, rfl, by omega, by omega⟩
  subst this
  omega

/-! All lengths together. -/
def sumR (f : Nat → Nat) : Nat → Nat
  | 0 => 0
  | n + 1 => sumR f n + f n
theorem sumR_add (f g : Nat → Nat) : ∀ n, sumR (fun i => f i + g i) n = sumR f n + sumR g n
  | 0 => rfl
  | n + 1 => by simp only [sumR, sumR_add f g n]; omega
theorem sumR_congr {f g : Nat → Nat} : ∀ {n : Nat}, (∀ i, i < n → f i = g i) → sumR f n = sumR g n
  | 0, _ => rfl
  | n + 1, h => by
    have e := sumR_congr (f := f) (g := g) (n := n) fun i hi => h i (by omega)
    simp only [sumR, e, h n (by omega)]
theorem sumR_zero {f : Nat → Nat} : ∀ {n : Nat}, (∀ i, i < n → f i = 0) → sumR f n = 0
  | 0, _ => rfl
  | n + 1, h => by
    have e := sumR_zero (f := f) (n := n) fun i hi => h i (by omega)
    simp only [sumR, e, h n (by omega)]
theorem sumR_single {f : Nat → Nat} {k : Nat} : ∀ {n : Nat}, k < n → (∀ i, i < n → i ≠ k → f i = 0) → sumR f n = f k
  | 0, h, _ => by omega
  | n + 1, h, h0 => by
    simp only [sumR]
    rcases Nat.lt_or_ge k n with hk | hk
    · rw [sumR_single hk fun i hi hne => h0 i (by omega) hne, h0 n (by omega) (by omega)]; rfl
    · have : k = n := by omega
      subst this
      rw [sumR_zero fun i hi => h0 i (by omega) (by omega)]; omega
theorem total_sumR (xs : List Nat) : ∀ n, xs.length ≤ n → total xs = sumR (vat xs) n := by
  have key : ∀ n, total (xs.take n) = sumR (vat xs) n := fun n => by
    induction n with
    | zero => simp [sumR, total_nil]
    | succ n ih =>
      rcases Nat.lt_or_ge n xs.length with h | h
      · rw [total_take_succ xs n h, ih]; rfl
      · rw [List.take_of_length_le (by omega)] at ih ⊢
        simp only [sumR, ← ih, vat_ge h]; rfl
  intro n hn
  rw [← key n, List.take_of_length_le hn]
theorem tot_sum : ∀ l : List PP, (∀ q ∈ l, (0 ≤ q.sh ∧ q.sh ≤ 7) ∧ q.seg < 4) → tot l = sumR (fun k => sumR (fun g => cnt k g l) 4) 8
  | [], _ => by rfl
  | q :: l, h => by
    have ih := tot_sum l fun q' h' => h q' (List.mem_cons_of_mem _ h')
    obtain ⟨⟨h1, h2⟩, h3⟩ := h q (List.mem_cons_self ..)
    simp only [tot, cnt, sumR_add, ← ih]
    congr 1
    obtain ⟨k, hk⟩ := Int.eq_ofNat_of_zero_le h1
    have e : sumR (fun (k : Nat) => sumR (fun g => if q.sh = (k : Int) ∧ q.seg = g then q.many else 0) 4) 8 = sumR (fun g => if q.sh = (k : Int) ∧ q.seg = g then q.many else 0) 4 := by
      refine sumR_single (k := k) (by omega) fun i hi hne => sumR_zero fun g hg => ?_
      rw [if_neg (fun hh => hne (by omega))]
    rw [e, sumR_single (k := q.seg) h3 fun i hi hne => by rw [if_neg (fun hh => hne hh.2.symm)], if_pos ⟨hk, rfl⟩]

/-! The shards by their numbers. -/
def shardsTo (s : PF) : Nat → List (Int × PH)
  | 0 => []
  | k + 1 => shardsTo s k ++ (match s.sh k with | none => [] | some h => [((k : Int), h)])
def shardsF (s : PF) : List (Int × PH) := shardsTo s 8
def totH : List (Int × PH) → Nat
  | [] => 0
  | q :: l => total q.2.lens + totH l
theorem totH_append : ∀ a b : List (Int × PH), totH (a ++ b) = totH a + totH b
  | [], b => by simp [totH]
  | p :: a, b => by simp [totH, totH_append a b]; omega
theorem totH_to {s : PF} (hg : s.good) : ∀ k : Nat, totH (shardsTo s k) = sumR (fun k => sumR (fun g => cnt k g s.L) 4) k
  | 0 => rfl
  | k + 1 => by
    show totH (shardsTo s k ++ (match s.sh k with | none => [] | some h => [((k : Int), h)])) = sumR (fun k => sumR (fun g => cnt k g s.L) 4) k + sumR (fun g => cnt k g s.L) 4
    rw [totH_append, totH_to hg k]
    congr 1
    cases hs : s.sh k with
    | none => rw [show sumR (fun g => cnt k g s.L) 4 = 0 from sumR_zero fun g _ => hg.none _ hs g]; rfl
    | some h =>
      obtain ⟨a, b, c, d⟩ := hg.ids _ _ hs
      show total h.lens + 0 = _
      rw [total_sumR h.lens 4 (by omega), Nat.add_zero]
      exact sumR_congr fun g _ => hg.lens _ _ hs g
theorem shards_total {s : PF} (hg : s.good) : totH (shardsF s) = s.n := by
  rw [shardsF, totH_to hg, hg.n, ← tot_sum]
  intro q hq
  obtain ⟨i, hi, e⟩ := List.getElem_of_mem hq
  subst e
  obtain ⟨h, a, b, c, d, _⟩ := good_span hg hi
  exact ⟨b, by omega⟩
theorem mem_to {s : PF} {i : Int} {h : PH} : ∀ k : Nat, (i, h) ∈ shardsTo s k ↔ s.sh i = some h ∧ 0 ≤ i ∧ i < k
  | 0 => by constructor
            · intro h; cases h
            · rintro ⟨_, h1, h2⟩; simp at h2; omega
  | k + 1 => by
    simp only [shardsTo, List.mem_append, mem_to k]
    cases hs : s.sh k with
    | none =>
      simp only [List.not_mem_nil, or_false]
      constructor
      · rintro ⟨a, b, c⟩; exact ⟨a, b, by omega⟩
      · rintro ⟨a, b, c⟩
        refine ⟨a, b, ?_⟩
        rcases Int.lt_or_le i k with hl | hl
        · exact hl
        · have : i = k := by omega
          subst this; rw [hs] at a; cases a
    | some q =>
      simp only [List.mem_singleton, Prod.mk.injEq]
      constructor
      · rintro (⟨a, b, c⟩ | ⟨a, b⟩)
        · exact ⟨a, b, by omega⟩
        · subst a; subst b; exact ⟨hs, by omega, by omega⟩
      · rintro ⟨a, b, c⟩
        rcases Int.lt_or_le i k with hl | hl
        · exact .inl ⟨a, b, hl⟩
        · have : i = k := by omega
          subst this; rw [hs] at a; injection a with a; exact .inr ⟨rfl, a.symm⟩
theorem mem_shards {s : PF} (hg : s.good) {i : Int} {h : PH} : (i, h) ∈ shardsF s ↔ s.sh i = some h := by
  rw [shardsF, mem_to]
  constructor
  · exact fun h => h.1
  · intro hs
    have := hg.ids _ _ hs
    exact ⟨hs, this.1.1, by omega⟩
theorem shards_rise (s : PF) : ∀ k : Nat, (shardsTo s k).Pairwise fun a b => a.1 < b.1
  | 0 => List.Pairwise.nil
  | k + 1 => by
    simp only [shardsTo]
    refine List.pairwise_append.2 ⟨shards_rise s k, ?_, fun a ha b hb => ?_⟩
    · cases s.sh k <;> simp
    · obtain ⟨i, h⟩ := a
      have := ((mem_to k).1 ha).2.2
      cases hs : s.sh k with
      | none => rw [hs] at hb; cases hb
      | some q => rw [hs] at hb; simp only [List.mem_singleton] at hb; subst hb; exact this
/-- Rows by rising numbers with the same members are the same. -/
theorem rise_ext {A : Type} (f : A → Int) : ∀ {a b : List A}, a.Pairwise (fun x y => f x < f y) → b.Pairwise (fun x y => f x < f y) → (∀ x, x ∈ a ↔ x ∈ b) → a = b
  | [], [], _, _, _ => rfl
  | [], y :: b, _, _, h => by have := (h y).2 (List.mem_cons_self ..); cases this
  | x :: a, [], _, _, h => by have := (h x).1 (List.mem_cons_self ..); cases this
  | x :: a, y :: b, ha, hb, h => by
    have ha' := List.pairwise_cons.1 ha
    have hb' := List.pairwise_cons.1 hb
    have e : x = y := by
      rcases List.mem_cons.1 ((h x).1 (List.mem_cons_self ..)) with e | h1
      · exact e
      · rcases List.mem_cons.1 ((h y).2 (List.mem_cons_self ..)) with e | h2
        · exact e.symm
        · have := hb'.1 x h1
          have := ha'.1 y h2
          omega
    subst e
    refine congrArg _ (rise_ext f ha'.2 hb'.2 fun z => ?_)
    constructor
    · intro hz
      rcases List.mem_cons.1 ((h z).1 (List.mem_cons_of_mem _ hz)) with e | h1
      · subst e; have := ha'.1 z hz; omega
      · exact h1
    · intro hz
      rcases List.mem_cons.1 ((h z).2 (List.mem_cons_of_mem _ hz)) with e | h1
      · subst e; have := hb'.1 z hz; omega
      · exact h1
theorem shardsF_alike {s t : PF} (h : s.alike t) : shardsF t = shardsF s := by
  have : ∀ k, shardsTo t k = shardsTo s k := fun k => by
    induction k with
    | zero => rfl
    | succ k ih => simp only [shardsTo, ih, h.sh]
  exact this 8
/-- What isn't a Trim leaves the low end. -/
theorem apply_low {s : PF} {c : PC} (ho : c.op ≠ 3) : (applyF s c).2.low = s.low := by
  have hr : ∀ (l : List PW) (t : PF), (putRows t l).low = t.low := fun l => by
    induction l with
    | nil => intro t; rfl
    | cons r l ih =>
      intro t
      rw [putRows_cons, ih]
      unfold putRow; split <;> rfl
  have hc : ∀ l, (cutF s l).2.low = s.low := fun l => by
    unfold cutF
    split
    · rfl
    · split
      · rfl
      · exact hr l s
  have hse : ∀ (t : PF) k, (sealF t k).low = t.low := fun t k => by unfold sealF; split <;> rfl
  have hd : (doF s c).2.low = s.low := by
    unfold doF
    rw [if_neg ho]
    split
    · split <;> rfl
    · split
      · split
        · rfl
        · split
          · rfl
          · exact (hse _ _).trans (hc _)
      · split
        · exact hc _
        · rfl
  unfold applyF
  split
  · rfl
  · split
    · exact hd
    · split
      · rfl
      · exact hd
end Go.Proofs.Ytkodmgnagfolpaa
end

section
/- What rows add, one after another: the state behind the first j of them. No program. -/
namespace Go.Proofs.Ytkodmgnagfolpaa
set_option maxRecDepth 100000
set_option linter.unusedVariables false
set_option linter.unusedSimpArgs false

theorem rowsB_lt : ∀ {l : List PW} {b : Int}, rowsB l b = true → ∀ {i j : Nat} (hij : i < j) (hj : j < l.length), (l[i]'(by omega)).shard < l[j].shard
  | [], _, _, i, j, _, hj => by simp at hj
  | r :: l, b, h, i, j, hij, hj => by
    have h' := h
    simp only [rowsB, Bool.and_eq_true] at h'
    obtain ⟨j', rfl⟩ : ∃ j', j = j' + 1 := ⟨j - 1, by omega⟩
    rcases i with _ | i
    · simp only [List.getElem_cons_zero, List.getElem_cons_succ]
      exact rowsB_sep h'.2 _ (List.getElem_mem _)
    · simp only [List.getElem_cons_succ]
      exact rowsB_lt h'.2 (by omega) (by simpa using hj)
theorem rowsB_take : ∀ {l : List PW} {b : Int} (j : Nat), rowsB l b = true → rowsB (l.take j) b = true
  | [], b, j, h => by simpa using h
  | r :: l, b, 0, h => by simp [rowsB]
  | r :: l, b, j + 1, h => by
    simp only [rowsB, Bool.and_eq_true] at h
    simp only [List.take_succ_cons, rowsB, Bool.and_eq_true]
    exact ⟨h.1, rowsB_take j h.2⟩
theorem rowsB_cut {l : List PW} {b : Int} (h : rowsB l b = true) : ∀ r ∈ l, isCut r.lens ∧ r.lens.length ≤ 4 ∧ r.shard ≤ 7 ∧ b < r.shard := by
  intro r hr
  induction l generalizing b with
  | nil => cases hr
  | cons q l ih =>
    simp only [rowsB, Bool.and_eq_true] at h
    rcases List.mem_cons.1 hr with e | hr
    · subst e
      obtain ⟨h1, h2, h3, h4⟩ := rowB_iff.1 h.1
      exact ⟨rowB_cut h.1, h3, h2, h1⟩
    · obtain ⟨h1, h2, h3, h4⟩ := ih h.2 hr
      have := (rowB_iff.1 h.1).1
      exact ⟨h1, h2, h3, by omega⟩
theorem rowsE_take {s : PF} {l : List PW} (j : Nat) (h : rowsE s l = 0) : rowsE s (l.take j) = 0 := rowsE_of fun r hr => rowsE_mem h r (List.mem_of_mem_take hr)
theorem putRows_take_succ (s : PF) {l : List PW} {j : Nat} (hj : j < l.length) : putRows s (l.take (j + 1)) = putRow (putRows s (l.take j)) l[j] := by
  rw [List.take_succ_eq_append_getElem hj]
  unfold putRows
  rw [List.foldl_append]; rfl
theorem putRows_else {s : PF} {i : Int} : ∀ {l : List PW}, (∀ q ∈ l, q.shard ≠ i) → (putRows s l).sh i = s.sh i := by
  intro l
  induction l generalizing s with
  | nil => intro _; rfl
  | cons r l ih =>
    intro h
    rw [putRows_cons, ih (fun q hq => h q (List.mem_cons_of_mem _ hq)), putRow_else (fun e => h r (List.mem_cons_self ..) e.symm)]
theorem putRow_n (s : PF) (r : PW) : s.n ≤ (putRow s r).n := by
  unfold putRow
  split
  · exact Nat.le_refl _
  · exact Nat.le_add_right _ _
theorem putRows_n (s : PF) (l : List PW) : s.n ≤ (putRows s l).n := by
  induction l generalizing s with
  | nil => exact Nat.le_refl _
  | cons r l ih => exact Nat.le_trans (putRow_n s r) (ih _)
theorem putRows_take_n (s : PF) (l : List PW) (j : Nat) : (putRows s (l.take j)).n ≤ (putRows s l).n := by
  have : putRows s l = putRows (putRows s (l.take j)) (l.drop j) := by
    unfold putRows
    rw [← List.foldl_append, List.take_append_drop]
  rw [this]; exact putRows_n _ _
/-- What a row finds, when those ahead of it were put. -/
structure RowAt (s : PF) (l : List PW) (j : Nat) (r : PW) (q : PH) : Prop where
  good : (putRows s (l.take j)).goodL
  sh : (putRows s (l.take j)).sh r.shard = some q
  sh0 : s.sh r.shard = some q
  le : ∀ g, vat q.lens g ≤ vat r.lens g
  cut : isCut r.lens
  next : putRows s (l.take (j + 1)) = putRow (putRows s (l.take j)) r
  n : (putRow (putRows s (l.take j)) r).n ≤ (putRows s l).n
theorem rowAt {s : PF} {l : List PW} {b : Int} (hg : s.goodL) (hb : rowsB l b = true) (he : rowsE s l = 0) {j : Nat} (hj : j < l.length) : ∃ q, RowAt s l j l[j] q := by
  obtain ⟨q, h1, h2, h3, h4⟩ := rowE_zero.1 (rowsE_mem he l[j] (List.getElem_mem _))
  refine ⟨q, putRows_good hg (rowsB_take j hb) (rowsE_take j he), ?_, h1, leB_iff.1 h4, (rowsB_cut hb _ (List.getElem_mem _)).1, putRows_take_succ s hj, ?_⟩
  · rw [putRows_else, h1]
    intro p hp e
    obtain ⟨i, hi, rfl⟩ := List.getElem_of_mem hp
    rw [List.length_take] at hi
    rw [List.getElem_take] at e
    have := rowsB_lt hb (show i < j by omega) hj
    omega
  · rw [← putRows_take_succ s hj]; exact putRows_take_n _ _ _
theorem putRows_length (s : PF) {l : List PW} {j : Nat} (hl : ∀ r ∈ l, r.lens.length ≤ 4) : (putRows s l).L.length ≤ s.L.length + 4 * l.length := by
  induction l generalizing s with
  | nil => exact Nat.le_add_right _ _
  | cons r l ih =>
    have h1 := ih (putRow s r) (fun q hq => hl q (List.mem_cons_of_mem _ hq))
    rw [putRows_cons]
    have h2 : (putRow s r).L.length ≤ s.L.length + 4 := by
      unfold putRow
      split
      · omega
      · rename_i q hq
        have : ∀ id a b n j, (newL id a b n j).length ≤ j := fun id a b n j => by
          induction j with
          | zero => exact Nat.le_refl _
          | succ j ih => simp only [newL, List.length_append]; split <;> simp <;> omega
        have h3 := this r.shard q.lens r.lens s.n r.lens.length
        have h4 := hl r (List.mem_cons_self ..)
        show (s.L ++ _).length ≤ _
        rw [List.length_append]; omega
    simp only [List.length_cons]; omega
theorem newN_sum (a b : List Nat) : ∀ j, newN a b j = sumR (fun g => vat b g - vat a g) j
  | 0 => rfl
  | j + 1 => by simp only [newN, sumR, newN_sum a b j]
theorem total_new {a b zs : List Nat} (hc : isCut zs) (hz : ∀ g, vat zs g = vat b g - vat a g) : total zs = newN a b b.length := by
  have hl : zs.length ≤ b.length := by
    rcases Nat.lt_or_ge b.length zs.length with hlt | hge
    · obtain ⟨k, hk⟩ : ∃ k, zs.length = k + 1 := ⟨zs.length - 1, by omega⟩
      have h1 := hc k hk
      rw [hz, vat_ge (xs := b) (by omega), Nat.zero_sub] at h1
      exact absurd rfl h1
    · exact hge
  rw [total_sumR zs b.length hl, newN_sum]
  exact sumR_congr fun g _ => hz g
/-- How many records are new, of so many rows. -/
theorem putRows_total {s : PF} {l : List PW} {b : Int} (hg : s.goodL) (hb : rowsB l b = true) (he : rowsE s l = 0) {Z : List (List Nat)} (hZ : Z.length = l.length) (hz : ∀ t (h : t < Z.length), isCut Z[t] ∧ ∀ q, s.sh (l[t]'(by omega)).shard = some q → ∀ g, vat Z[t] g = vat (l[t]'(by omega)).lens g - vat q.lens g) :
    ∀ j, j ≤ l.length → total (s.n :: (Z.take j).flatten) = (putRows s (l.take j)).n
  | 0, _ => by simp [total_cons, total_nil, putRows]
  | j + 1, hj => by
    have ih := putRows_total hg hb he hZ hz j (by omega)
    obtain ⟨q, hq⟩ := rowAt hg hb he (show j < l.length by omega)
    rw [hq.next, putRow_some hq.sh]
    have hjz : j < Z.length := by omega
    obtain ⟨h1, h2⟩ := hz j hjz
    show _ = (putRows s (l.take j)).n + newN q.lens (l[j]'(by omega)).lens (l[j]'(by omega)).lens.length
    rw [← total_new h1 (h2 q hq.sh0), ← ih, List.take_succ_eq_append_getElem hjz, List.flatten_append]
    simp only [List.flatten_cons, List.flatten_nil, List.append_nil, total_cons, total_append]
    omega
end Go.Proofs.Ytkodmgnagfolpaa
end
