/- Texts laid as one: Confc, Confd, Confe, Conff. -/
import Derived.Test.YtkodmgnagfolpaaConfM3
import Derived.Test.YtkodmgnagfolpaaRowsO

section
/- Package conf: getRows. -/
namespace Go.Proofs.Ytkodmgnagfolpaa
set_option maxRecDepth 100000
open Go.RowKit
set_option linter.unusedVariables false
set_option linter.unusedSimpArgs false

theorem infoCRow : (Try.prog.info? 52).map (fun i => (i.zero, i.size, i.bytes)) = some (some (.agg #[.int .i64 0, .slice none 0 0]), 2, 32) := by kernel_rfl
end Go.Proofs.Ytkodmgnagfolpaa
end

section
/- Package conf: getField. -/
namespace Go.Proofs.Ytkodmgnagfolpaa
set_option maxRecDepth 100000
open Go.RowKit
set_option linter.unusedVariables false
set_option linter.unusedSimpArgs false

/-- The rows of a command in a box: where they lie. -/
def RowsIn (B : Nat) (w : World) (c : PC) (A : Option Addr) (n k : Nat) : Prop := ∃ L, c.rows = pws L ∧ Rws w A n k L ∧ Rfar B A L
theorem RowsIn.mods {S : Nat → Prop} {B : Nat} {w w' : World} {c : PC} {A : Option Addr} {n k : Nat} (h : RowsIn B w c A n k) (hm : Mods S w w') (hS : ∀ i, S i → i < B) : RowsIn B w' c A n k := by
  obtain ⟨L, h1, h2, h3⟩ := h
  exact ⟨L, h1, h2.modsB h3 hm hS, h3⟩
theorem RowsIn.nil (B : Nat) (w : World) {c : PC} (h : c.rows = []) : RowsIn B w c none 0 0 := ⟨[], h, Rws.nil w, Rfar.nil _ _⟩
theorem setC_rows (c : PC) (j x : Nat) : (setC c j x).rows = c.rows := by
  unfold setC
  split
  · rfl
  split
  · rfl
  split
  · rfl
  split <;> rfl
theorem fldR_bad {j : Nat} {c : PC} {xs : List UInt8} (h : numE xs (bLo j) (bHi j) ≠ 0) : (fldR j c xs).1 = numE xs (bLo j) (bHi j) := by
  unfold numE at h ⊢
  unfold fldR
  split
  · rfl
  · rename_i h1
    rw [if_neg h1] at h
    by_cases h2 : (readUint 0 xs).2.2 < bLo j ∨ bHi j < (readUint 0 xs).2.2
    · rw [if_pos h2, if_pos h2]
    · rw [if_neg h2] at h; exact absurd rfl h
theorem fldR_num {j : Nat} (hj : j ≠ 5) {c : PC} {xs : List UInt8} (h : numE xs (bLo j) (bHi j) = 0) : fldR j c xs = (0, (readUint 0 xs).2.1, setC c j (readUint 0 xs).2.2) := by
  obtain ⟨h1, h2, h3⟩ := numE_zero.1 h
  unfold fldR
  rw [if_neg (by simp [h1]), if_neg (by omega), if_neg hj]
theorem fldR_rows {c : PC} {xs : List UInt8} (h : numE xs (bLo 5) (bHi 5) = 0) : fldR 5 c xs = if (rowsF (readUint 0 xs).2.2 (readUint 0 xs).2.1).1 ≠ 0 then ((rowsF (readUint 0 xs).2.2 (readUint 0 xs).2.1).1, [], c) else (0, (rowsF (readUint 0 xs).2.2 (readUint 0 xs).2.1).2.1, { c with rows := (rowsF (readUint 0 xs).2.2 (readUint 0 xs).2.1).2.2 }) := by
  obtain ⟨h1, h2, h3⟩ := numE_zero.1 h
  unfold fldR
  rw [if_neg (by simp [h1]), if_neg (by omega), if_pos rfl]
theorem CV_rows (c : PC) (A : Option Addr) (n k : Nat) (A' : Option Addr) (n' k' : Nat) (l : List PW) : (CV c A n k).setIfInBounds 6 (.slice A' n' k') = CV { c with rows := l } A' n' k' := rfl
end Go.Proofs.Ytkodmgnagfolpaa
end

section
/- Package conf: getFields. -/
namespace Go.Proofs.Ytkodmgnagfolpaa
set_option maxRecDepth 100000
open Go.RowKit
set_option linter.unusedVariables false
set_option linter.unusedSimpArgs false

/-- What the fields' reading says. -/
def fldsE (t : Int × List UInt8 × PC) : Int := if t.1 ≠ 0 then t.1 else if t.2.1 = [] then 0 else 12
def FldsTold (w : World) (B G g : Nat) (t : Int × List UInt8 × PC) (e : Ending) (w' : World) : Prop :=
  ∃ c' A' n' k', e = .returned (.int .i64 (fldsE t)) ∧ Blk w' G 30 (CV c' A' n' k') ∧ Mods (fun i => i = G ∨ i = g) w w' ∧ (fldsE t = 0 → c' = t.2.2 ∧ RowsIn B w' c' A' n' k')
theorem chain_err {j : Nat} {fs : List Nat} {c : PC} {xs : List UInt8} (h : (fldR j c xs).1 ≠ 0) : chain (j :: fs) c xs = ((fldR j c xs).1, [], {}) := by rw [chain, if_pos h]
theorem chain_ok {j : Nat} {fs : List Nat} {c : PC} {xs : List UInt8} (h : (fldR j c xs).1 = 0) : chain (j :: fs) c xs = chain fs (fldR j c xs).2.2 (fldR j c xs).2.1 := by rw [chain, if_neg (by simp [h])]
theorem setC_op (c : PC) (j x : Nat) : (setC c j x).op = c.op := by
  unfold setC
  split
  · rfl
  split
  · rfl
  split
  · rfl
  split <;> rfl
theorem fldR_op (j : Nat) (c : PC) (xs : List UInt8) : (fldR j c xs).2.2.op = c.op := by
  unfold fldR
  split
  · rfl
  split
  · rfl
  split
  · split <;> rfl
  · exact setC_op _ _ _
end Go.Proofs.Ytkodmgnagfolpaa
end

section
/- Package conf: Get. -/
namespace Go.Proofs.Ytkodmgnagfolpaa
set_option maxRecDepth 100000
open Go.RowKit
set_option linter.unusedVariables false
set_option linter.unusedSimpArgs false

theorem CV_one (c : PC) (A : Option Addr) (n k : Nat) : (CV c A n k).all (·.oneCell') = true := by simp [CV, Value.oneCell']
theorem CV_cells (c : PC) (A : Option Addr) (n k : Nat) : (Value.agg (CV c A n k)).cells = CV c A n k := by simp [CV, Value.cells]
theorem CV_info : (Try.prog.info? 30).map (·.size) = some 7 := by kernel_rfl
/-- What a call that reads a command leaves. -/
def GotC (w : World) (c : PC) (E : Int) (e : Ending) (w' : World) : Prop :=
  ∃ A n k, e = .returned (.tuple #[.agg (CV c A n k), .int .i64 E]) ∧ RowsIn w.heap.size w' c A n k ∧ Mods Nil w w'
theorem fldsE_zero {T : Int × List UInt8 × PC} (h : fldsE T = 0) : T.1 = 0 := by
  unfold fldsE at h
  split at h
  · rename_i h1; exact absurd h h1
  · rename_i h1; exact Classical.not_not.1 h1
theorem gT_chain {x : UInt8} {t : List UInt8} (h : x.toNat ≤ 4) : gT (x :: t) = chain (ownFrom (x.toNat : Int) 0) { op := (x.toNat : Int) } t := by
  unfold gT
  simp only [List.headD_cons, List.drop_one, List.tail_cons]
  exact tree_chain h t
theorem gT_ok {x : UInt8} {t : List UInt8} (h : x.toNat ≤ 4) (h1 : (gT (x :: t)).1 = 0) : (gT (x :: t)).2.2.ok := by
  obtain ⟨c, hc⟩ : ∃ c, (gT (x :: t)).2.2 = c := ⟨_, rfl⟩
  obtain ⟨r, hr⟩ : ∃ r, (gT (x :: t)).2.1 = r := ⟨_, rfl⟩
  have hT : gT (x :: t) = (0, r, c) := Prod.ext h1 (Prod.ext hr hc)
  unfold gT at hT
  simp only [List.headD_cons, List.drop_one, List.tail_cons] at hT
  obtain ⟨L, e, hw, hb⟩ := run_walk _ _ _ _ hT
  rw [hc]
  exact (tree_to h hw).2.2 hb
theorem gE_cons {x : UInt8} {t : List UInt8} (h : x.toNat ≤ 4) : gE (x :: t) = if fldsE (gT (x :: t)) ≠ 0 then fldsE (gT (x :: t)) else if chkC (gT (x :: t)).2.2 ≠ 0 then 11 else 0 := by
  unfold gE fldsE
  rw [if_neg (by simp), if_neg (by simp only [List.headD_cons]; omega)]
  by_cases h1 : (gT (x :: t)).1 = 0
  · by_cases h2 : (gT (x :: t)).2.1 = []
    · simp [h1, h2]
    · simp [h1, h2]
  · simp [h1]
end Go.Proofs.Ytkodmgnagfolpaa
end
