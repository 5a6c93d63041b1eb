/- The reference of layer 10: rows that are read (readRows). -/
import Derived.Test.YtcncgjiaefjmhaaRef10c
import Derived.Test.YtcncgjiaefjmhaaRowsO
import Derived.Test.YtcncgjiaefjmhaaConfM3
import Derived.Test.YtcncgjiaefjmhaaVec4
namespace Go.Proofs.Ytcncgjiaefjmhaa
set_option maxRecDepth 1000000
open Go.RowKit
set_option linter.unusedVariables false
set_option linter.unusedSimpArgs false

/-! What the chain of small and Read comes to. -/
theorem readUint_err {E : Int} (h : E ≠ 0) (B : List UInt8) : readUint E B = (E, B, 0) := by unfold readUint; rw [if_pos h]
theorem smallS_err {E : Int} (h : E ≠ 0) (B : List UInt8) (lo hi : Nat) : smallS E B lo hi = (E, B, 0) := by
  unfold smallS
  rw [readUint_err h, if_neg (fun h2 => h h2.1)]
theorem smallS_ok (B : List UInt8) (lo hi : Nat) : (smallS 0 B lo (hi + 1)).1 = numE B lo hi ∧ (numE B lo hi = 0 → (smallS 0 B lo (hi + 1)).2.1 = (readUint 0 B).2.1 ∧ (smallS 0 B lo (hi + 1)).2.2 = (readUint 0 B).2.2) := by
  unfold smallS numE
  by_cases h1 : (readUint 0 B).1 = 0
  · by_cases h2 : (readUint 0 B).2.2 < lo ∨ hi < (readUint 0 B).2.2
    · rw [if_pos ⟨h1, by omega⟩, if_neg (by simp [h1]), if_pos h2]
      exact ⟨rfl, fun h => absurd h (by simp)⟩
    · rw [if_neg (fun h => h2 (by omega)), if_neg (by simp [h1]), if_neg h2]
      exact ⟨h1, fun _ => ⟨rfl, rfl⟩⟩
  · rw [if_neg (fun h => h1 h.1), if_pos h1]
    exact ⟨rfl, fun h => absurd h h1⟩
theorem smallS_le (E : Int) (B : List UInt8) (lo hi : Nat) : (smallS E B lo (hi + 1)).2.2 ≤ hi := by
  unfold smallS
  split
  · simp
  · rename_i h
    by_cases h1 : (readUint E B).1 = 0
    · have : ¬ ((readUint E B).2.2 < lo ∨ hi + 1 ≤ (readUint E B).2.2) := fun h2 => h ⟨h1, h2⟩
      omega
    · rw [readUint_zero E B h1]; omega
/-- One step of a chain: an error stays, else a number between two bounds is read. -/
structure SmallP (E : Int) (B : List UInt8) (lo hi : Nat) (E1 : Int) (B1 : List UInt8) (x : Nat) : Prop where
  err : E ≠ 0 → E1 = E ∧ x = 0
  ok : E = 0 → E1 = numE B lo hi ∧ (E1 = 0 → B1 = (readUint 0 B).2.1 ∧ x = (readUint 0 B).2.2)
  le : x ≤ hi
  z : E1 ≠ 0 → x = 0
theorem smallS_zero (E : Int) (B : List UInt8) (lo hi : Nat) (h : (smallS E B lo hi).1 ≠ 0) : (smallS E B lo hi).2.2 = 0 := by
  unfold smallS at h ⊢
  split
  · rfl
  · rename_i h1; rw [if_neg h1] at h; exact readUint_zero E B h
theorem smallP_of {E : Int} {B B1 : List UInt8} {lo hi : Nat} (hB : (smallS E B lo (hi + 1)).1 = 0 → B1 = (smallS E B lo (hi + 1)).2.1) : SmallP E B lo hi (smallS E B lo (hi + 1)).1 B1 (smallS E B lo (hi + 1)).2.2 := by
  refine ⟨fun h => ?_, fun h => ?_, smallS_le _ _ _ _, smallS_zero _ _ _ _⟩
  · rw [smallS_err h]; exact ⟨rfl, rfl⟩
  · subst h
    obtain ⟨h1, h2⟩ := smallS_ok B lo hi
    refine ⟨h1, fun h0 => ?_⟩
    have h3 := h2 (by rw [← h1]; exact h0)
    exact ⟨by rw [hB h0, h3.1], h3.2⟩
/-- The lengths that were read. -/
structure LensP (E2 : Int) (B2 : List UInt8) (j : Nat) (E3 : Int) (B3 : List UInt8) (l : List Nat) : Prop where
  err : E2 ≠ 0 → E3 = E2
  ok : E2 = 0 → E3 = (lensF j B2).1 ∧ (E3 = 0 → B3 = (lensF j B2).2.1 ∧ l = (lensF j B2).2.2)
theorem LensP.zero (E : Int) (B : List UInt8) : LensP E B 0 E B [] := ⟨fun _ => rfl, fun h => ⟨h, fun _ => ⟨rfl, rfl⟩⟩⟩
theorem LensP.step {E2 E3 : Int} {B2 B3 B4 : List UInt8} {j : Nat} {l : List Nat} (h : LensP E2 B2 j E3 B3 l) (hB : (readUint E3 B3).1 = 0 → B4 = (readUint E3 B3).2.1) : LensP E2 B2 (j + 1) (readUint E3 B3).1 B4 (l ++ [(readUint E3 B3).2.2]) := by
  refine ⟨fun h2 => ?_, fun h2 => ?_⟩
  · rw [h.err h2, readUint_err h2]
  · obtain ⟨h3, h4⟩ := h.ok h2
    rw [lensF_snoc]
    by_cases h0 : E3 = 0
    · obtain ⟨h5, h6⟩ := h4 h0
      rw [if_neg (by rw [← h3]; simp [h0]), ← h5, ← h6]
      subst h0
      by_cases h7 : (readUint 0 B3).1 = 0
      · rw [if_neg (by simp [h7])]
        exact ⟨h7, fun h => ⟨hB h, rfl⟩⟩
      · rw [if_pos h7]
        exact ⟨rfl, fun h => absurd h h7⟩
    · rw [if_pos (by rw [← h3]; exact h0), readUint_err h0]
      exact ⟨h3, fun h => absurd h h0⟩
theorem row_join {E E1 E2 E3 : Int} {B B1 B2 B3 : List UInt8} {s k : Nat} {l : List Nat} (h1 : SmallP E B 0 7 E1 B1 s) (h2 : SmallP E1 B1 0 4 E2 B2 k) (h3 : LensP E2 B2 k E3 B3 l) :
    (E ≠ 0 → E3 = E) ∧ (E = 0 → E3 = (rowR B).1 ∧ (E3 = 0 → B3 = (rowR B).2.1 ∧ (rowR B).2.2 = ⟨s, l⟩)) := by
  refine ⟨fun h => ?_, fun h => ?_⟩
  · have e1 := (h1.err h).1
    have e2 := (h2.err (by rw [e1]; exact h)).1
    rw [h3.err (by rw [e2, e1]; exact h), e2, e1]
  · obtain ⟨g1, g2⟩ := h1.ok h
    by_cases a1 : E1 = 0
    · obtain ⟨b1, b2⟩ := g2 a1
      obtain ⟨g3, g4⟩ := h2.ok a1
      obtain ⟨n1, -, n2⟩ := numE_zero.1 (g1.symm.trans a1)
      by_cases a2 : E2 = 0
      · obtain ⟨b3, b4⟩ := g4 a2
        obtain ⟨n3, -, n4⟩ := numE_zero.1 (g3.symm.trans a2)
        obtain ⟨g5, g6⟩ := h3.ok a2
        have hR : rowR B = if (lensF k B2).1 ≠ 0 then ((lensF k B2).1, [], {}) else (0, (lensF k B2).2.1, ⟨(s : Int), (lensF k B2).2.2⟩) := by
          unfold rowR
          rw [if_neg (by simp [n1]), if_neg (by omega), ← b1, if_neg (by simp [n3]), if_neg (by omega), ← b3, ← b4, ← b2]
        rw [hR]
        by_cases a3 : E3 = 0
        · obtain ⟨b5, b6⟩ := g6 a3
          rw [if_neg (by rw [← g5]; simp [a3]), b5, b6]
          exact ⟨a3, fun _ => ⟨rfl, rfl⟩⟩
        · rw [if_pos (by rw [← g5]; exact a3)]
          exact ⟨g5, fun h => absurd h a3⟩
      · have e3 := h3.err a2
        have hr := rowR_bad2 (g1.symm.trans a1) b1.symm (by rw [← g3]; exact a2)
        rw [e3, hr, g3]
        exact ⟨rfl, fun h => absurd (g3.trans h) a2⟩
    · have e2 := (h2.err a1).1
      have e3 := h3.err (by rw [e2]; exact a1)
      have hr := rowR_bad1 (xs := B) (by rw [← g1]; exact a1)
      rw [e3, e2, hr, g1]
      exact ⟨rfl, fun h => absurd (g1.trans h) a1⟩
/-- The rows that were read. -/
structure RowsP (ys : List UInt8) (i : Nat) (E : Int) (B : List UInt8) (l : List PW) : Prop where
  err : E = (rowsF i ys).1
  ok : E = 0 → B = (rowsF i ys).2.1 ∧ l = (rowsF i ys).2.2
theorem RowsP.step {ys B B3 : List UInt8} {i : Nat} {E E3 : Int} {l : List PW} {q : PW} (h : RowsP ys i E B l) (h1 : E ≠ 0 → E3 = E) (h2 : E = 0 → E3 = (rowR B).1 ∧ (E3 = 0 → B3 = (rowR B).2.1 ∧ (rowR B).2.2 = q)) : RowsP ys (i + 1) E3 B3 (l ++ [q]) := by
  by_cases h0 : E = 0
  · obtain ⟨h3, h4⟩ := h.ok h0
    obtain ⟨h5, h6⟩ := h2 h0
    have hs : rowsF (i + 1) ys = if (rowR B).1 ≠ 0 then ((rowR B).1, [], []) else (0, (rowR B).2.1, l ++ [(rowR B).2.2]) := by
      rw [rowsF_snoc, if_neg (by rw [← h.err]; simp [h0]), ← h3, ← h4]
    refine ⟨?_, fun h7 => ?_⟩
    · rw [hs]
      by_cases h8 : (rowR B).1 = 0
      · rw [if_neg (by simp [h8]), h5, h8]
      · rw [if_pos h8, h5]
    · obtain ⟨h9, h10⟩ := h6 h7
      rw [hs, if_neg (by rw [← h5]; simp [h7]), h9, h10]
      exact ⟨rfl, rfl⟩
  · have e := h1 h0
    refine ⟨?_, fun h7 => absurd (e ▸ h7) h0⟩
    rw [rowsF_snoc, if_pos (by rw [← h.err]; exact h0), e]
    exact h.err
/-- All of it: how many rows, and these. -/
def allF (E : Int) (xs : List UInt8) : Int × List UInt8 × List PW :=
  if E ≠ 0 then (E, [], []) else if numE xs 0 8 ≠ 0 then (numE xs 0 8, [], []) else rowsF (readUint 0 xs).2.2 (readUint 0 xs).2.1
theorem allF_of {E E1 : Int} {xs B1 : List UInt8} {n : Nat} (h : SmallP E xs 0 8 E1 B1 n) : (E1 ≠ 0 → n = 0 ∨ E1 ≠ 0) ∧ (E1 = 0 → allF E xs = rowsF n B1) ∧ (E1 ≠ 0 → (allF E xs).1 = E1) := by
  refine ⟨fun h1 => .inr h1, fun h1 => ?_, fun h1 => ?_⟩
  · unfold allF
    by_cases h0 : E = 0
    · obtain ⟨g1, g2⟩ := h.ok h0
      obtain ⟨b1, b2⟩ := g2 h1
      rw [if_neg (by simp [h0]), if_neg (by rw [← g1]; simp [h1]), b1, b2]
    · exact absurd ((h.err h0).1.symm.trans h1) h0
  · unfold allF
    by_cases h0 : E = 0
    · rw [if_neg (by simp [h0]), if_pos (by rw [← (h.ok h0).1]; exact h1)]
      exact (h.ok h0).1.symm
    · rw [if_pos h0]; exact (h.err h0).1.symm

theorem infoW : (Try.prog.info? 70).map (fun i => (i.zero, i.size, i.bytes)) = some (some (.agg #[.int .i64 0, .slice none 0 0]), 2, 32) := by kernel_rfl
/-- The boxes of the walk: the reader's, and the result's. -/
structure RB (w W : World) (B : List UInt8) (E : Int) : Prop where
  a : Blk W w.heap.size 61 #[.string (strOf B), .int .i64 E]
  b : Blk W (w.heap.size + 1) 61 #[.string ⟨#[]⟩, .int .i64 0]
  m : Mods Nil w W
theorem RB.nil {w W W' : World} {B : List UInt8} {E : Int} (h : RB w W B E) (hm : Mods Nil W W') : RB w W' B E := ⟨h.a.mods hm (fun h => h), h.b.mods hm (fun h => h), h.m.trans hm⟩
theorem RB.set {w W : World} {B : List UInt8} {E : Int} (h : RB w W B E) (B' : List UInt8) (E' : Int) : RB w ((W.setCell ⟨w.heap.size, 0, none⟩ (.string (strOf B'))).setCell ⟨w.heap.size, 1, none⟩ (.int .i64 E')) B' E' :=
  ⟨(set_both h.a h.b (by omega) _ _).1, (set_both h.a h.b (by omega) _ _).2, (h.m.setNew (by simp) _).setNew (by simp) _⟩
theorem RB.far {w W W' : World} {S : Nat → Prop} {B : List UInt8} {E : Int} (h : RB w W B E) (hm : Mods S W W') (hS : ∀ i, S i → w.heap.size + 2 ≤ i) : RB w W' B E :=
  ⟨h.a.mods hm (fun h => by have := hS _ h; omega), h.b.mods hm (fun h => by have := hS _ h; omega), h.m.nil_trans hm (fun i h => by have := hS _ h; omega)⟩
/-- What writes the reader's box alone. -/
theorem setR_mods (w W : World) (x y : Value) : Mods (· = w.heap.size) W ((W.setCell ⟨w.heap.size, 0, none⟩ x).setCell ⟨w.heap.size, 1, none⟩ y) := Mods.setCell (S := (· = w.heap.size)) (Mods.setCell (S := (· = w.heap.size)) (Mods.refl _ _) (fun _ => rfl) _) (fun _ => rfl) _
end Go.Proofs.Ytcncgjiaefjmhaa
