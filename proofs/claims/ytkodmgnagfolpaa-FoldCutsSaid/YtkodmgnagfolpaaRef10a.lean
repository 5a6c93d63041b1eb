/- The reference of layer 10: rows in memory; whether a row may be (row); a number between two bounds (small). -/
import Derived.Test.YtkodmgnagfolpaaConf0
import Derived.Test.YtkodmgnagfolpaaVec0
import Derived.Test.YtkodmgnagfolpaaActs
import Derived.Test.YtkodmgnagfolpaaGQ
namespace Go.Proofs.Ytkodmgnagfolpaa
set_option maxRecDepth 100000
open Go.RowKit
set_option linter.unusedVariables false
set_option linter.unusedSimpArgs false

/-- A row where it lies. -/
structure RowP where
  shard : Int
  A : Option Addr
  cap : Nat
  lens : List Nat
def RowP.fv (r : RowP) : List Fv := [.int .i64 r.shard, .u64s r.A r.cap r.lens]
def RowP.pw (r : RowP) : PW := ⟨r.shard, r.lens⟩
def pws (L : List RowP) : List PW := L.map RowP.pw
/-- A slice of rows. -/
abbrev Rws (w : World) (A : Option Addr) (n c : Nat) (L : List RowP) : Prop := Acts w A n c [.int .i64, .u64s] (L.map RowP.fv)
theorem Rws.len {w : World} {A : Option Addr} {n c : Nat} {L : List RowP} (h : Rws w A n c L) : L.length = n := by have := h.size; simpa using this
/-- One row of them. -/
theorem Rws.at_ {w : World} {A : Option Addr} {n c j : Nat} {L : List RowP} (h : Rws w A n c L) (hj : j < n) :
    ∃ b off q, A = some ⟨b, off, none⟩ ∧ b < w.heap.size ∧ L[j]? = some q ∧ w.cell? ⟨b, off + j * 2, none⟩ = some (.int .i64 q.shard) ∧ w.cell? ⟨b, off + (j * 2 + 1), none⟩ = some (.slice q.A q.lens.length q.cap) ∧ Sl w q.A q.cap (nums q.lens) ∧ (∀ x ∈ q.lens, x < 18446744073709551616) ∧ -9223372036854775808 ≤ q.shard ∧ q.shard ≤ 9223372036854775807 := by
  have hl := h.len
  obtain ⟨b, off, e, hb, hc⟩ := h.cells (by omega)
  have hj' : j < L.length := by omega
  have hx : (L.map RowP.fv)[j]? = some (L[j]).fv := by simp [hj']
  have hg := (h.good _ (List.mem_of_getElem? hx)).2
  have h0 := hg (.int .i64 L[j].shard) (by simp [RowP.fv])
  have h1 := hg (.u64s L[j].A L[j].cap L[j].lens) (by simp [RowP.fv])
  have c0 := hc j _ hx 0 (.int .i64 L[j].shard) rfl
  have c1 := hc j _ hx 1 (.u64s L[j].A L[j].cap L[j].lens) rfl
  have hi : -9223372036854775808 ≤ L[j].shard ∧ L[j].shard ≤ 9223372036854775807 := by
    have h0' : (Lit.int .i64 L[j].shard).wf = true := h0
    simp only [Lit.wf, Bool.and_eq_true, decide_eq_true_eq] at h0'
    have g1 : IntKind.i64.min = -9223372036854775808 := by decide
    have g2 : IntKind.i64.max = 9223372036854775807 := by decide
    omega
  exact ⟨b, off, L[j], e, hb, by simp [hj'], c0, c1, h1.1, h1.2, hi⟩
theorem last_vat {l : List Nat} {k : Nat} (h : l.length = k + 1) : l.getLastD 0 = vat l k := by
  have hne : l ≠ [] := by intro e; simp [e] at h
  rw [List.getLastD_eq_getLast?, List.getLast?_eq_getElem?]
  simp [vat, List.getD_eq_getElem?_getD, h]
end Go.Proofs.Ytkodmgnagfolpaa
