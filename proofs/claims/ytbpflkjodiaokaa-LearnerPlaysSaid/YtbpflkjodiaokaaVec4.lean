/- Package vec: Same, the longest row, Cut. -/
import Derived.Test.YtbpflkjodiaokaaVec3
import Derived.Test.YtbpflkjodiaokaaClone
import Derived.Laws.Cover1
namespace Go.Proofs.Ytbpflkjodiaokaa
set_option maxRecDepth 100000
open Go.RowKit
set_option linter.unusedVariables false
set_option linter.unusedSimpArgs false

/-- A row of numbers: where it lies, its room, its numbers. -/
structure RowN where
  A : Option Addr
  c : Nat
  xs : List Nat
instance : Inhabited RowN := ⟨⟨none, 0, []⟩⟩
def RowN.val (r : RowN) : Value := .slice r.A r.xs.length r.c
structure RowN.ok (w : World) (r : RowN) : Prop where
  sl : Sl w r.A r.c (nums r.xs)
  bd : Bd r.xs
  le : r.xs.length ≤ 1000000
theorem RowN.ok.mods {w w' : World} {r : RowN} (h : RowN.ok w r) (hm : Mods Nil w w') : RowN.ok w' r := ⟨h.sl.mods hm (fun _ _ h => h), h.bd, h.le⟩
theorem rowN_at {w : World} {A : Option Addr} {c j : Nat} {l : List RowN} (h : Sl w A c (l.map RowN.val)) (hj : j < l.length) :
    ∃ b off, A = some ⟨b, off, none⟩ ∧ b < w.heap.size ∧ w.cell? ⟨b, off + j, none⟩ = some (.slice l[j].A l[j].xs.length l[j].c) := by
  obtain ⟨b, off, hA, hb, hc⟩ := h.at_ (by simp; omega)
  exact ⟨b, off, hA, hb, hc j _ (by simp [RowN.val, hj])⟩
def lenMax (l : List RowN) : Nat := l.foldl (fun k r => max k r.xs.length) 0
theorem lenMax_snoc (l : List RowN) (r : RowN) : lenMax (l ++ [r]) = max (lenMax l) r.xs.length := by unfold lenMax; rw [List.foldl_append]; rfl
theorem lenMax_take_succ {l : List RowN} {j : Nat} (h : j < l.length) : lenMax (l.take (j + 1)) = max (lenMax (l.take j)) l[j].xs.length := by
  rw [List.take_succ_eq_append_getElem h, lenMax_snoc]
theorem lenMax_take_le {l : List RowN} (k : Nat) (hl : ∀ r ∈ l, r.xs.length ≤ k) : lenMax l ≤ k := by
  have : ∀ (l : List RowN) (a : Nat), a ≤ k → (∀ r ∈ l, r.xs.length ≤ k) → l.foldl (fun k r => max k r.xs.length) a ≤ k := by
    intro l
    induction l with
    | nil => intro a ha _; exact ha
    | cons x t ih => intro a ha h; exact ih _ (Nat.max_le.2 ⟨ha, h x (by simp)⟩) (fun r hr => h r (by simp [hr]))
  exact this l 0 (Nat.zero_le _) hl
theorem foldl_max_le (l : List RowN) : ∀ (a : Nat), a ≤ l.foldl (fun k r => max k r.xs.length) a ∧ ∀ r ∈ l, r.xs.length ≤ l.foldl (fun k r => max k r.xs.length) a := by
  induction l with
  | nil => intro a; exact ⟨Nat.le_refl _, fun r h => by cases h⟩
  | cons x t ih =>
    intro a
    have := ih (max a x.xs.length)
    refine ⟨Nat.le_trans (Nat.le_max_left _ _) this.1, fun r hr => ?_⟩
    rcases List.mem_cons.1 hr with rfl | hr
    · exact Nat.le_trans (Nat.le_max_right _ _) this.1
    · exact this.2 r hr
theorem le_lenMax {l : List RowN} {r : RowN} (h : r ∈ l) : r.xs.length ≤ lenMax l := (foldl_max_le l 0).2 r h
theorem sameB_of {xs ys : List Nat} (h : ∀ j, j < max xs.length ys.length → decide (vat xs j = vat ys j) = true) : sameB xs ys = true := by
  unfold sameB
  rw [decide_eq_true_iff]
  exact fun i hi => by simpa using h i hi
theorem sameB_not {xs ys : List Nat} {j : Nat} (hj : j < max xs.length ys.length) (h : decide (vat xs j = vat ys j) = false) : sameB xs ys = false := by
  unfold sameB
  rw [decide_eq_false_iff_not]
  intro h2
  have := h2 j hj
  simp at h
  omega
theorem lenMax_two (r q : RowN) : lenMax [r, q] = max r.xs.length q.xs.length := by simp [lenMax]
/-! Cut. -/
theorem infoV64 : (Try.prog.info? 29).map (fun i => (i.zero, i.size, i.bytes)) = some (some (.int .u64 0), 1, 8) := by kernel_rfl
theorem sizeV64 (W : World) : (sizeOf (Try.prog.elem 22)).run Try.prog W = .ok 1 W := by kernel_rfl
theorem slice_to64 {A : Option Addr} {n c j : Nat} (hj : j ≤ c) (W : World) : (Instr.slice 22 (.slice A n c) none (some (.int .i64 (j : Int))) none).run Try.prog W = .ok (.slice A j c) W := by
  rw [run_slice_h (P := Try.prog) W _ A n c (by exact Try.underlying22) .i64 (j : Int) (by omega) (by omega)]
  rw [sizeV64]
  cases A <;> simp [Result.andThen, sliced, Addr.add]
end Go.Proofs.Ytbpflkjodiaokaa
