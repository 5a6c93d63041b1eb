/- FoldCuts in plain terms: the spans that the law wants, the rows it cuts. No program. -/
import Derived.Test.YtkodmgnagfolpaaLaw11M
namespace Go.Proofs.Ytkodmgnagfolpaa
set_option maxRecDepth 100000
set_option linter.unusedVariables false
set_option linter.unusedSimpArgs false

def sumD (d : Nat → Nat) : Nat → Nat
  | 0 => 0
  | t + 1 => sumD d t + d t
theorem sumD_le {d : Nat → Nat} (h : ∀ i, d i ≤ 3) : ∀ t, sumD d t ≤ 3 * t
  | 0 => Nat.le_refl _
  | t + 1 => by have := sumD_le h t; have := h t; simp only [sumD]; omega
def wantL (u d : Nat → Nat) (P : Nat) : Nat → List PP
  | 0 => []
  | t + 1 => wantL u d P t ++ (if 0 < d t then [⟨P + sumD d t, ((3 * (t / 4) : Nat) : Int), t % 4, u t, d t⟩] else [])
theorem wantL_none {u d : Nat → Nat} {P t : Nat} (h : d t = 0) : wantL u d P (t + 1) = wantL u d P t := by
  simp [wantL, h]
theorem wantL_some {u d : Nat → Nat} {P t h g : Nat} (ht : 4 * h + g = t) (hg : g < 4) (hd : 0 < d t) : wantL u d P (t + 1) = wantL u d P t ++ [⟨P + sumD d t, ((3 * h : Nat) : Int), g, u t, d t⟩] := by
  have e1 : t / 4 = h := by omega
  have e2 : t % 4 = g := by omega
  simp only [wantL]
  rw [if_pos hd, e1, e2]
theorem wantL_len (u d : Nat → Nat) (P : Nat) : ∀ t, (wantL u d P t).length ≤ t
  | 0 => Nat.le_refl _
  | t + 1 => by
    have := wantL_len u d P t
    simp only [wantL, List.length_append]
    split <;> simp <;> omega
theorem newL_want {u d : Nat → Nat} {P h : Nat} {a b : List Nat} (ha : ∀ g, g < 4 → vat a g = u (4 * h + g)) (hb : ∀ g, g < 4 → vat b g = u (4 * h + g) + d (4 * h + g)) : ∀ j, j ≤ 4 →
    wantL u d P (4 * h + j) = wantL u d P (4 * h) ++ newL ((3 * h : Nat) : Int) a b (P + sumD d (4 * h)) j ∧ sumD d (4 * h + j) = sumD d (4 * h) + newN a b j
  | 0, _ => ⟨by simp [newL], by simp [newN]⟩
  | j + 1, hj => by
    obtain ⟨h1, h2⟩ := newL_want ha hb (P := P) j (by omega)
    have e : vat b j - vat a j = d (4 * h + j) := by rw [ha j (by omega), hb j (by omega)]; omega
    rw [show 4 * h + (j + 1) = 4 * h + j + 1 by omega]
    refine ⟨?_, by simp only [sumD, newN]; rw [h2, e]; omega⟩
    by_cases hd : 0 < d (4 * h + j)
    · rw [wantL_some rfl (by omega) hd, h1, h2]
      simp only [newL]
      rw [if_pos (by rw [ha j (by omega), hb j (by omega)]; omega), e, ha j (by omega), List.append_assoc, Nat.add_assoc]
    · rw [wantL_none (by omega), h1]
      simp only [newL]
      rw [if_neg (by rw [ha j (by omega), hb j (by omega)]; omega), List.append_nil]
theorem newL_over {id : Int} {a b : List Nat} {n : Nat} (h : ∀ g, vat a g ≤ vat b g) : ∀ k, newL id a b n (b.length + k) = newL id a b n b.length ∧ newN a b (b.length + k) = newN a b b.length
  | 0 => ⟨rfl, rfl⟩
  | k + 1 => by
    obtain ⟨h1, h2⟩ := newL_over (id := id) (n := n) h k
    have e : vat b (b.length + k) = 0 := vat_ge (by omega)
    have e2 := h (b.length + k)
    refine ⟨?_, ?_⟩
    · show newL id a b n (b.length + k) ++ (if vat a (b.length + k) < vat b (b.length + k) then _ else _) = _
      rw [if_neg (by omega), List.append_nil, h1]
    · show newN a b (b.length + k) + (vat b (b.length + k) - vat a (b.length + k)) = _
      rw [h2]; omega
theorem newL_four {id : Int} {a b : List Nat} {n : Nat} (h : ∀ g, vat a g ≤ vat b g) (hl : b.length ≤ 4) : newL id a b n b.length = newL id a b n 4 ∧ newN a b b.length = newN a b 4 := by
  obtain ⟨h1, h2⟩ := newL_over (id := id) (n := n) h (4 - b.length)
  rw [show b.length + (4 - b.length) = 4 by omega] at h1 h2
  exact ⟨h1.symm, h2.symm⟩
/-- A shard's row: four numbers, without the noughts at the end. -/
def four (u : Nat → Nat) (h : Nat) (l : List Nat) : Prop := ∀ g, vat l g = if g < 4 then u (4 * h + g) else 0
theorem four_len {u : Nat → Nat} {h : Nat} {l : List Nat} (hf : four u h l) (hc : isCut l) : l.length ≤ 4 := by
  rcases Nat.lt_or_ge 4 l.length with hlt | hge
  · have h1 := hc (l.length - 1) (by omega)
    rw [hf, if_neg (by omega)] at h1
    exact absurd rfl h1
  · exact hge
theorem four_row {u : Nat → Nat} {h : Nat} {l : List Nat} (hf : four u h l) (hc : isCut l) {b : Int} (h1 : b < ((3 * h : Nat) : Int)) (h2 : h ≤ 2) : rowB ⟨((3 * h : Nat) : Int), l⟩ b = true := by
  rw [rowB_iff]
  refine ⟨h1, by show ((3 * h : Nat) : Int) ≤ 7; omega, four_len hf hc, ?_⟩
  rcases Nat.eq_zero_or_pos l.length with h0 | h0
  · exact .inl h0
  · refine .inr ?_
    obtain ⟨q, hq⟩ : ∃ q, l.length = q + 1 := ⟨l.length - 1, by omega⟩
    show l.getLastD 0 ≠ 0
    rw [getLastD_vat hq]
    exact hc q hq
structure CutsAt (s : PF) (u : Nat → Nat) (P : Nat) : Prop where
  sh : ∀ h : Nat, h < 2 → ∃ l, s.sh ((3 * h : Nat) : Int) = some { segs := 4, lens := l } ∧ four u h l
  n : s.n = P
def cutR (r0 r3 : List Nat) : List PW := [⟨((3 * 0 : Nat) : Int), r0⟩, ⟨((3 * 1 : Nat) : Int), r3⟩]
theorem cuts_next {s : PF} {u d : Nat → Nat} {P : Nat} (h : CutsAt s u P) {r0 r3 : List Nat} (c0 : isCut r0) (c3 : isCut r3) (f0 : four (fun i => u i + d i) 0 r0) (f3 : four (fun i => u i + d i) 1 r3) (hP : P + sumD d 8 < 18446744073709551616) :
    ∃ s', applyF s ⟨4, 0, 0, 0, 0, 0, cutR r0 r3⟩ = (0, s') ∧ CutsAt s' (fun i => u i + d i) (P + sumD d 8) ∧ s'.L = s.L ++ wantL u d P 8 := by
  obtain ⟨l0, e0, g0⟩ := h.sh 0 (by omega)
  obtain ⟨l3, e3, g3⟩ := h.sh 1 (by omega)
  have le0 : ∀ g, vat l0 g ≤ vat r0 g := fun g => by rw [g0, f0]; dsimp only; split <;> omega
  have le3 : ∀ g, vat l3 g ≤ vat r3 g := fun g => by rw [g3, f3]; dsimp only; split <;> omega
  have b0 := four_row f0 c0 (b := -1) (by omega) (by omega)
  have b3 := four_row f3 c3 (b := ((3 * 0 : Nat) : Int)) (by omega) (by omega)
  have hb : rowsB (cutR r0 r3) (-1) = true := by simp only [cutR, rowsB, b0, b3, Bool.and_true]
  have hE : rowsE s (cutR r0 r3) = 0 := rowsE_of fun r hr => by
    simp only [cutR, List.mem_cons, List.not_mem_nil, or_false] at hr
    rcases hr with rfl | rfl
    · exact rowE_zero.2 ⟨_, e0, rfl, by have := four_len f0 c0; show (r0.length : Int) ≤ 4; omega, leB_iff.2 le0⟩
    · exact rowE_zero.2 ⟨_, e3, rfl, by have := four_len f3 c3; show (r3.length : Int) ≤ 4; omega, leB_iff.2 le3⟩
  have ha0 : ∀ g, g < 4 → vat l0 g = u (4 * 0 + g) := fun g hg => by rw [g0, if_pos hg]
  have hb0 : ∀ g, g < 4 → vat r0 g = u (4 * 0 + g) + d (4 * 0 + g) := fun g hg => by rw [f0, if_pos hg]
  have ha3 : ∀ g, g < 4 → vat l3 g = u (4 * 1 + g) := fun g hg => by rw [g3, if_pos hg]
  have hb3 : ∀ g, g < 4 → vat r3 g = u (4 * 1 + g) + d (4 * 1 + g) := fun g hg => by rw [f3, if_pos hg]
  obtain ⟨w1, n1⟩ := newL_want ha0 hb0 (P := P) 4 (Nat.le_refl _)
  obtain ⟨w2, n2⟩ := newL_want ha3 hb3 (P := P) 4 (Nat.le_refl _)
  obtain ⟨o1, p1⟩ := newL_four (id := ((3 * 0 : Nat) : Int)) (n := s.n) le0 (four_len f0 c0)
  have s1 := putRow_some (s := s) (r := ⟨((3 * 0 : Nat) : Int), r0⟩) e0
  simp only [o1, p1] at s1
  have e3' : (putRow s ⟨((3 * 0 : Nat) : Int), r0⟩).sh ((3 * 1 : Nat) : Int) = some { segs := 4, lens := l3 } := by rw [putRow_else (by simp), e3]
  have s2 := putRow_some (r := ⟨((3 * 1 : Nat) : Int), r3⟩) e3'
  obtain ⟨o2, p2⟩ := newL_four (id := ((3 * 1 : Nat) : Int)) (n := (putRow s ⟨((3 * 0 : Nat) : Int), r0⟩).n) le3 (four_len f3 c3)
  simp only [o2, p2] at s2
  have m1 : (putRow s ⟨((3 * 0 : Nat) : Int), r0⟩).n = P + sumD d 4 := by
    rw [s1]
    show s.n + newN l0 r0 4 = _
    rw [h.n]
    simp only [sumD, Nat.mul_zero, Nat.zero_add] at n1 ⊢
    omega
  have L1 : (putRow s ⟨((3 * 0 : Nat) : Int), r0⟩).L = s.L ++ wantL u d P 4 := by
    rw [s1]
    show s.L ++ newL _ l0 r0 s.n 4 = _
    rw [h.n]
    simp only [Nat.mul_zero, Nat.zero_add, sumD, Nat.add_zero, wantL, List.nil_append] at w1 ⊢
    rw [← w1]
  have e : putRows s (cutR r0 r3) = putRow (putRow s ⟨((3 * 0 : Nat) : Int), r0⟩) ⟨((3 * 1 : Nat) : Int), r3⟩ := rfl
  have m2 : (putRows s (cutR r0 r3)).n = P + sumD d 8 := by
    rw [e, s2]
    show (putRow s ⟨((3 * 0 : Nat) : Int), r0⟩).n + newN l3 r3 4 = _
    rw [m1]
    rw [show 4 * 1 = 4 from rfl, show 4 + 4 = 8 from rfl] at n2
    omega
  refine ⟨putRows s (cutR r0 r3), ?_, ⟨fun i hi => ?_, m2⟩, ?_⟩
  · rw [cut_says hb]
    unfold cutF
    rw [if_neg (by simp [hE]), if_neg (by rw [m2]; omega)]
  · rw [e]
    rcases Nat.eq_zero_or_pos i with rfl | hi1
    · refine ⟨r0, ?_, f0⟩
      rw [putRow_else (by simp), s1]
      simp [upH]
    · obtain rfl : i = 1 := by omega
      refine ⟨r3, ?_, f3⟩
      rw [s2]
      simp [upH]
  · rw [e, s2]
    show (putRow s ⟨((3 * 0 : Nat) : Int), r0⟩).L ++ newL _ l3 r3 (putRow s ⟨((3 * 0 : Nat) : Int), r0⟩).n 4 = _
    rw [L1, m1, List.append_assoc]
    congr 1
    rw [show 4 * 1 = 4 from rfl, show 4 + 4 = 8 from rfl] at w2
    rw [w2]
/-- The two shards. -/
def cutS : Nat → PF
  | 0 => {}
  | 1 => { sh := upH (fun _ => none) ((3 * 0 : Nat) : Int) { segs := 4 } }
  | _ => { sh := upH (upH (fun _ => none) ((3 * 0 : Nat) : Int) { segs := 4 }) ((3 * 1 : Nat) : Int) { segs := 4 } }
theorem cutS_next {j : Nat} (hj : j < 2) : applyF (cutS j) ⟨1, 0, 0, ((3 * j : Nat) : Int), 4, 0, []⟩ = (0, cutS (j + 1)) := by
  rcases Nat.eq_zero_or_pos j with rfl | h
  · exact add_new (by omega) (by omega) rfl
  · obtain rfl : j = 1 := by omega
    exact add_new (by omega) (by omega) (by simp [cutS, upH])
theorem cutS_at : CutsAt (cutS 2) (fun _ => 0) 0 := by
  refine ⟨fun h hh => ⟨[], ?_, fun g => by rw [vat_nil]; split <;> rfl⟩, rfl⟩
  rcases Nat.eq_zero_or_pos h with rfl | h0
  · simp [cutS, upH]
  · obtain rfl : h = 1 := by omega
    simp [cutS, upH]
/-- What is new by bytes that come in. -/
def dOf (xs : List UInt8) (i : Nat) : Nat := vat (xs.map fun x => x.toNat % 4) i
theorem dOf_le (xs : List UInt8) (i : Nat) : dOf xs i ≤ 3 := by
  unfold dOf
  by_cases h : i < xs.length
  · rw [vat_lt (by simpa using h)]; simp; omega
  · rw [vat_ge (by simp; omega)]; omega
theorem dOf_lt {xs : List UInt8} {i : Nat} (h : i < xs.length) : dOf xs i = xs[i].toNat % 4 := by
  unfold dOf; rw [vat_lt (by simpa using h)]; simp
theorem dOf_ge {xs : List UInt8} {i : Nat} (h : xs.length ≤ i) : dOf xs i = 0 := vat_ge (by simpa using h)
attribute [irreducible] cutS
end Go.Proofs.Ytkodmgnagfolpaa
