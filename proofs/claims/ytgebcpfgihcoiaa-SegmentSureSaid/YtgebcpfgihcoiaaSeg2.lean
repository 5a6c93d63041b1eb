/- Segments behind a crash: a front of what was not sure stands, and nothing else. No program. -/
import Derived.Test.YtgebcpfgihcoiaaSeg1
namespace Go.Proofs.Ytgebcpfgihcoiaa
set_option maxRecDepth 100000
set_option linter.unusedVariables false

theorem getD_set (L : List (List UInt8)) (u i : Nat) (x : List UInt8) (hi : i < L.length) : (L.set u x).getD i [] = if u = i then x else L.getD i [] := by
  simp only [List.getD_eq_getElem?_getD, List.getElem?_set]
  split
  · subst_vars; simp [hi]
  · rfl
/-- Writes that wait, one behind the other. -/
def rowW : Nat → List (List UInt8) → List (Nat × List UInt8)
  | _, [] => []
  | u, b :: bs => (u, b) :: rowW (u + 1) bs
theorem rowW_length : ∀ (u : Nat) (bs : List (List UInt8)), (rowW u bs).length = bs.length
  | _, [] => rfl
  | u, b :: bs => by simp [rowW, rowW_length (u + 1) bs]
theorem rowW_append : ∀ (u : Nat) (a b : List (List UInt8)), rowW u (a ++ b) = rowW u a ++ rowW (u + a.length) b
  | u, [], b => rfl
  | u, x :: a, b => by
    simp only [List.cons_append, rowW, rowW_append (u + 1) a b, List.length_cons]
    rw [show u + 1 + a.length = u + (a.length + 1) by omega]
theorem rowW_mem : ∀ {u : Nat} {bs : List (List UInt8)} {x : Nat × List UInt8}, x ∈ rowW u bs → u ≤ x.1 ∧ x.1 < u + bs.length ∧ x.2 ∈ bs
  | u, [], x, h => by cases h
  | u, b :: bs, x, h => by
    simp only [rowW, List.mem_cons] at h
    rcases h with rfl | h
    · simp
    · obtain ⟨h1, h2, h3⟩ := rowW_mem h
      simp only [List.length_cons]
      exact ⟨by omega, by omega, List.mem_cons_of_mem _ h3⟩
theorem lay_row : ∀ (bs : List (List UInt8)) (u : Nat) (L : List (List UInt8)) (i : Nat), i < L.length → (layAll L (rowW u bs)).getD i [] = if u ≤ i ∧ i < u + bs.length then bs.getD (i - u) [] else L.getD i []
  | [], u, L, i, hi => by rw [if_neg (by simp <;> omega)]; rfl
  | b :: bs, u, L, i, hi => by
    simp only [rowW, layAll]
    rw [lay_row bs (u + 1) (L.set u b) i (by simpa using hi), getD_set L u i b hi]
    by_cases hu : u = i
    · subst hu
      rw [if_neg (by omega), if_pos rfl, if_pos (by simp)]
      simp
    · rw [if_neg hu]
      by_cases h2 : u + 1 ≤ i ∧ i < u + 1 + bs.length
      · rw [if_pos h2, if_pos (by simp <;> omega), show i - u = (i - (u + 1)) + 1 by omega, List.getD_cons_succ]
      · rw [if_neg h2, if_neg (by simp <;> omega)]
theorem crash_row : ∀ (bs : List (List UInt8)) (u : Nat) (L : List (List UInt8)) (ps : List UInt8) (i : Nat), i < L.length → ∃ k, k ≤ 64 ∧ (crashL L (rowW u bs) ps).getD i [] = if u ≤ i ∧ i < u + bs.length then tear k (bs.getD (i - u) []) (L.getD i []) else L.getD i []
  | [], u, L, ps, i, hi => ⟨0, by omega, by rw [if_neg (by simp <;> omega)]; rfl⟩
  | b :: bs, u, L, [], i, hi => ⟨0, by omega, by rw [crashL_nil, tear_zero]; simp⟩
  | b :: bs, u, L, p :: ps, i, hi => by
    simp only [rowW, crashL]
    obtain ⟨k, hk, e⟩ := crash_row bs (u + 1) (L.set u (tear (p.toNat % 65) b (L.getD u []))) ps i (by simpa using hi)
    rw [getD_set L u i _ hi] at e
    by_cases hu : u = i
    · subst hu
      refine ⟨p.toNat % 65, by omega, ?_⟩
      rw [e, if_neg (by omega), if_pos rfl, if_pos (by simp)]
      simp
    · refine ⟨k, hk, ?_⟩
      rw [e, if_neg hu]
      by_cases h2 : u + 1 ≤ i ∧ i < u + 1 + bs.length
      · rw [if_pos h2, if_pos (by simp <;> omega), show i - u = (i - (u + 1)) + 1 by omega, List.getD_cons_succ]
      · rw [if_neg h2, if_neg (by simp <;> omega)]

/-- The blocks of records of one epoch. -/
def blocksOf (E : Nat) : Nat → List (List UInt8) → List (List UInt8)
  | _, [] => []
  | pl, s :: ss => recP E pl s ++ blocksOf E (pl + 1) ss
def with_ (E : Nat) (ss : List (List UInt8)) : Recs := ss.map fun s => (s, E)
theorem with_append (E : Nat) (a b : List (List UInt8)) : with_ E (a ++ b) = with_ E a ++ with_ E b := List.map_append
theorem with_fst (E : Nat) (a : List (List UInt8)) : (with_ E a).map (·.1) = a := by
  induction a with
  | nil => rfl
  | cons s a ih => simp only [with_, List.map_cons] at ih ⊢; rw [ih]
theorem with_length (E : Nat) (a : List (List UInt8)) : (with_ E a).length = a.length := by simp [with_]
theorem blocksOf_length (E : Nat) : ∀ (pl : Nat) (ss : List (List UInt8)), (blocksOf E pl ss).length = usedP (with_ E ss)
  | _, [] => rfl
  | pl, s :: ss => by
    simp only [blocksOf, List.length_append, recP_length, blocksOf_length E (pl + 1) ss]
    rfl
theorem blocksOf_append (E : Nat) : ∀ (pl : Nat) (a b : List (List UInt8)), blocksOf E pl (a ++ b) = blocksOf E pl a ++ blocksOf E (pl + a.length) b
  | pl, [], b => rfl
  | pl, s :: a, b => by
    simp only [List.cons_append, blocksOf, blocksOf_append E (pl + 1) a b, List.append_assoc, List.length_cons]
    rw [show pl + 1 + a.length = pl + (a.length + 1) by omega]
theorem recP_get {E pl : Nat} {s : List UInt8} {i : Nat} (hi : i < needP s.length) : (recP E pl s).getD i [] = blockP E pl i (needP s.length) (partP s i) := by
  simp [recP, List.getD_eq_getElem?_getD, hi]
/-- Each of them is a part's block of that epoch. -/
theorem blocksOf_mem {E : Nat} : ∀ {pl : Nat} {ss : List (List UInt8)} {b : List UInt8}, b ∈ blocksOf E pl ss → ∃ pl k m p, b = blockP E pl k m p ∧ p.length ≤ 45
  | pl, [], b, h => by cases h
  | pl, s :: ss, b, h => by
    simp only [blocksOf, List.mem_append] at h
    rcases h with h | h
    · simp only [recP, List.mem_map, List.mem_range] at h
      obtain ⟨i, hi, rfl⟩ := h
      exact ⟨_, _, _, _, rfl, by rw [partP_length]; omega⟩
    · exact blocksOf_mem h
theorem getD_app_l {a b : List (List UInt8)} {i : Nat} (h : i < a.length) : (a ++ b).getD i [] = a.getD i [] := by
  simp only [List.getD_eq_getElem?_getD]
  rw [List.getElem?_append_left h]
theorem getD_app_r {a b : List (List UInt8)} {i : Nat} : (a ++ b).getD (a.length + i) [] = b.getD i [] := by
  simp only [List.getD_eq_getElem?_getD]
  rw [List.getElem?_append_right (by omega), Nat.add_sub_cancel_left]
/-- Blocks that all stand are records that are laid. -/
theorem laid_blocks {l : List (List UInt8)} {E : Nat} (hE : E < 4294967296) : ∀ {p pl : Nat} {ss : List (List UInt8)}, (∀ s ∈ ss, s.length ≤ 4096) → p + usedP (with_ E ss) ≤ l.length → (∀ j, j < usedP (with_ E ss) → l.getD (p + j) [] = (blocksOf E pl ss).getD j []) → LaidAt l p pl (with_ E ss)
  | p, pl, [], _, _, _ => trivial
  | p, pl, s :: ss, hs, hf, h => by
    have hu : usedP (with_ E (s :: ss)) = needP s.length + usedP (with_ E ss) := rfl
    rw [hu] at hf h
    refine ⟨⟨hs s List.mem_cons_self, hE, by show p + needP s.length ≤ l.length; omega, fun i hi => ?_⟩, ?_⟩
    · have := h i (by have : i < needP s.length := hi; omega)
      rw [this, blocksOf, getD_app_l (by rw [recP_length]; exact hi)]
      exact recP_get hi
    · refine laid_blocks hE (fun x hx => hs x (List.mem_cons_of_mem _ hx)) (by show p + needP s.length + usedP (with_ E ss) ≤ l.length; omega) (fun j hj => ?_)
      have := h (needP s.length + j) (by omega)
      show l.getD (p + needP s.length + j) [] = _
      rw [Nat.add_assoc, this, blocksOf]
      have hr := recP_length E pl s
      rw [← hr, getD_app_r]
/-- How many records stand whole. -/
theorem front_laid {l : List (List UInt8)} {E : Nat} (hE : E < 4294967296) : ∀ {p pl : Nat} {ss : List (List UInt8)}, (∀ s ∈ ss, s.length ≤ 4096) → p + usedP (with_ E ss) ≤ l.length →
    ∃ m, m ≤ ss.length ∧ LaidAt l p pl (with_ E (ss.take m)) ∧ ∀ (hm : m < ss.length), ¬ ∀ i, i < needP ss[m].length → l.getD (p + usedP (with_ E (ss.take m)) + i) [] = blockP E (pl + m) i (needP ss[m].length) (partP ss[m] i)
  | p, pl, [], _, _ => ⟨0, Nat.le_refl _, trivial, fun hm => by simp at hm⟩
  | p, pl, s :: ss, hs, hf => by
    have hu : usedP (with_ E (s :: ss)) = needP s.length + usedP (with_ E ss) := rfl
    rw [hu] at hf
    by_cases h0 : ∀ i, i < needP s.length → l.getD (p + i) [] = blockP E pl i (needP s.length) (partP s i)
    · obtain ⟨m, hm, h1, h2⟩ := front_laid (l := l) hE (p := p + needP s.length) (pl := pl + 1) (ss := ss) (fun x hx => hs x (List.mem_cons_of_mem _ hx)) (by omega)
      refine ⟨m + 1, by simp; omega, ⟨⟨hs s List.mem_cons_self, hE, by show p + needP s.length ≤ l.length; omega, h0⟩, h1⟩, fun hm1 hn => ?_⟩
      have hm2 : m < ss.length := by simpa using hm1
      refine h2 hm2 (fun i hi => ?_)
      have := hn i hi
      simp only [List.getElem_cons_succ, List.take_succ_cons] at this
      have hu2 : usedP (with_ E (s :: ss.take m)) = needP s.length + usedP (with_ E (ss.take m)) := rfl
      rw [hu2] at this
      rw [show p + needP s.length + usedP (with_ E (ss.take m)) + i = p + (needP s.length + usedP (with_ E (ss.take m))) + i by omega, show pl + 1 + m = pl + (m + 1) by omega]
      exact this
    · refine ⟨0, Nat.zero_le _, trivial, fun _ hn => h0 (fun i hi => ?_)⟩
      have := hn i hi
      simpa [usedP, with_] using this
theorem blocksOf_at {E : Nat} : ∀ {pl : Nat} {ss : List (List UInt8)} {m : Nat} (hm : m < ss.length) {i : Nat}, i < needP ss[m].length → (blocksOf E pl ss).getD (usedP (with_ E (ss.take m)) + i) [] = blockP E (pl + m) i (needP ss[m].length) (partP ss[m] i)
  | pl, [], m, hm, i, hi => by simp at hm
  | pl, s :: ss, 0, hm, i, hi => by
    simp only [List.getElem_cons_zero] at hi ⊢
    simp only [List.take_zero, blocksOf]
    rw [show usedP (with_ E []) + i = i by simp [usedP, with_], getD_app_l (by rw [recP_length]; exact hi), recP_get hi]
    rfl
  | pl, s :: ss, m + 1, hm, i, hi => by
    simp only [List.getElem_cons_succ] at hi ⊢
    have := blocksOf_at (E := E) (pl := pl + 1) (ss := ss) (m := m) (by simpa using hm) hi
    have hu2 : usedP (with_ E ((s :: ss).take (m + 1))) = (recP E pl s).length + usedP (with_ E (ss.take m)) := by rw [recP_length]; rfl
    rw [hu2, Nat.add_assoc, blocksOf, getD_app_r, this]
    rw [show pl + 1 + m = pl + (m + 1) by omega]
theorem used_take (E : Nat) {ss : List (List UInt8)} {m : Nat} (hm : m < ss.length) : usedP (with_ E (ss.take m)) + needP ss[m].length ≤ usedP (with_ E ss) := by
  have e : ss = ss.take m ++ ss[m] :: ss.drop (m + 1) := by simp
  have := congrArg (fun l => usedP (with_ E l)) e
  simp only [with_append, usedP_append] at this
  rw [this]
  simp only [with_, List.map_cons, usedP]
  omega
end Go.Proofs.Ytgebcpfgihcoiaa
