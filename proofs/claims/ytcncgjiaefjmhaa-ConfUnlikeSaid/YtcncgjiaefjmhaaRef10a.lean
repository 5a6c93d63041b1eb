/- The reference of layer 10: rows in memory; whether a row may be (row); a number between two bounds (small). -/
import Derived.Test.YtcncgjiaefjmhaaConf0
import Derived.Test.YtcncgjiaefjmhaaVec0
import Derived.Test.YtcncgjiaefjmhaaActs
import Derived.Test.YtcncgjiaefjmhaaGQ
namespace Go.Proofs.Ytcncgjiaefjmhaa
set_option maxRecDepth 100000
open Go.RowKit
set_option linter.unusedVariables false
set_option linter.unusedSimpArgs false

/-- A row where it lies. -/
structure RowP where
  shard : Int
  A : Option Addr
  cap : Nat
  lens : List Nat
def RowP.fv (r : RowP) : List Fv := [.int .i64 r.shard, .u64s r.A r.cap r.lens]
def RowP.pw (r : RowP) : PW := ⟨r.shard, r.lens⟩
def pws (L : List RowP) : List PW := L.map RowP.pw
/-- A slice of rows. -/
abbrev Rws (w : World) (A : Option Addr) (n c : Nat) (L : List RowP) : Prop := Acts w A n c [.int .i64, .u64s] (L.map RowP.fv)
theorem Rws.len {w : World} {A : Option Addr} {n c : Nat} {L : List RowP} (h : Rws w A n c L) : L.length = n := by have := h.size; simpa using this
/-- One row of them. -/
theorem Rws.at_ {w : World} {A : Option Addr} {n c j : Nat} {L : List RowP} (h : Rws w A n c L) (hj : j < n) :
    ∃ b off q, A = some ⟨b, off, none⟩ ∧ b < w.heap.size ∧ L[j]? = some q ∧ w.cell? ⟨b, off + j * 2, none⟩ = some (.int .i64 q.shard) ∧ w.cell? ⟨b, off + (j * 2 + 1), none⟩ = some (.slice q.A q.lens.length q.cap) ∧ Sl w q.A q.cap (nums q.lens) ∧ (∀ x ∈ q.lens, x < 18446744073709551616) ∧ -9223372036854775808 ≤ q.shard ∧ q.shard ≤ 9223372036854775807 := by
  have hl := h.len
  obtain ⟨b, off, e, hb, hc⟩ := h.cells (by omega)
  have hj' : j < L.length := by omega
  have hx : (L.map RowP.fv)[j]? = some (L[j]).fv := by simp [hj']
  have hg := (h.good _ (List.mem_of_getElem? hx)).2
  have h0 := hg (.int .i64 L[j].shard) (by simp [RowP.fv])
  have h1 := hg (.u64s L[j].A L[j].cap L[j].lens) (by simp [RowP.fv])
  have c0 := hc j _ hx 0 (.int .i64 L[j].shard) rfl
  have c1 := hc j _ hx 1 (.u64s L[j].A L[j].cap L[j].lens) rfl
  have hi : -9223372036854775808 ≤ L[j].shard ∧ L[j].shard ≤ 9223372036854775807 := by
    have h0' : (Lit.int .i64 L[j].shard).wf = true := h0
    simp only [Lit.wf, Bool.and_eq_true, decide_eq_true_eq] at h0'
    have g1 : IntKind.i64.min = -9223372036854775808 := by decide
    have g2 : IntKind.i64.max = 9223372036854775807 := by decide
    omega
  exact ⟨b, off, L[j], e, hb, by simp [hj'], c0, c1, h1.1, h1.2, hi⟩
theorem last_vat {l : List Nat} {k : Nat} (h : l.length = k + 1) : l.getLastD 0 = vat l k := by
  have hne : l ≠ [] := by intro e; simp [e] at h
  rw [List.getLastD_eq_getLast?, List.getLast?_eq_getElem?]
  simp [vat, List.getD_eq_getElem?_getD, h]
set_option maxHeartbeats 1600000 in
theorem r10row_any (w : World) {s b : Int} {A : Option Addr} {c n : Nat} {xs : List Nat} (hn : xs.length = n) (hs : Sl w A c (nums xs)) :
    Calls Try.prog 39 #[.agg #[.int .i64 s, .slice A n c], .int .i64 b] w fun e w' => e = .returned (.bool (rowB ⟨s, xs⟩ b)) ∧ Mods Nil w w' := by
  have HR : Hid (rowB ⟨s, xs⟩ b = decide (b < s ∧ s ≤ 7 ∧ n ≤ 4 ∧ (n = 0 ∨ xs.getLastD 0 ≠ 0))) := Lib.hid (by unfold rowB; rw [← hn])
  by_cases h1 : s ≤ b
  · rw [show rowB ⟨s, xs⟩ b = false by rw [HR.out]; simp; omega]
    clear hs hn HR
    go_enter Try.func39, Try.ntmps39
    go_wp2_with fail
    go_ret
    exact ⟨rfl, (Mods.refl _ _).alloc _⟩
  · by_cases h2 : 7 < s
    · rw [show rowB ⟨s, xs⟩ b = false by rw [HR.out]; simp; omega]
      have h1' : b < s := by omega
      clear hs hn HR h1
      go_enter Try.func39, Try.ntmps39
      go_wp2_with fail
      go_ret
      exact ⟨rfl, (Mods.refl _ _).alloc _⟩
    · by_cases h3 : 4 < n
      · rw [show rowB ⟨s, xs⟩ b = false by rw [HR.out]; simp; omega]
        have h1' : b < s := by omega
        have h2' : s ≤ 7 := by omega
        have h3' : (4 : Int) < (n : Int) := by omega
        clear hs hn HR h1 h2 h3
        go_enter Try.func39, Try.ntmps39
        go_wp2_with fail
        go_ret
        exact ⟨rfl, (Mods.refl _ _).alloc _⟩
      · have h1' : b < s := by omega
        have h2' : s ≤ 7 := by omega
        have h3' : (n : Int) ≤ 4 := by omega
        by_cases h4 : n = 0
        · subst h4
          rw [show rowB ⟨s, xs⟩ b = true by rw [HR.out]; simp; omega]
          clear hs hn HR h1 h2 h3
          go_enter Try.func39, Try.ntmps39
          go_wp2_with fail
          go_ret
          exact ⟨rfl, (Mods.refl _ _).alloc _⟩
        · obtain ⟨k, hk⟩ : ∃ k, n = k + 1 := ⟨n - 1, by omega⟩
          obtain ⟨g, off, rfl, hg, hc⟩ := sl_num hs (j := k) (by omega)
          have hv : rowB ⟨s, xs⟩ b = decide (¬ vat xs k = 0) := by
            rw [HR.out, last_vat (by omega : xs.length = k + 1)]
            by_cases e : vat xs k = 0
            · simp [e]; omega
            · simp [e]; omega
          rw [hv]
          obtain ⟨y, hy⟩ : ∃ y, vat xs k = y := ⟨_, rfl⟩
          rw [hy] at hc ⊢
          have hc' : (w.alloc (.cells #[.int .i64 s, .slice (some ⟨g, off, none⟩) n c] 70)).cell? ⟨g, off + k, none⟩ = some (.int .u64 (y : Int)) := (World.cell?_of_block (heap_alloc_old w _ hg)).trans hc
          have hk0 : decide ((n : Int) = 0) = false := by simp; omega
          have hkI : (n : Int) - 1 = (k : Int) := by omega
          have hkn : k < n := by omega
          have hyI : Hid (((n : Int) == 0 || (y : Int) != 0) = decide (¬ y = 0)) := Lib.hid (by
            have e : ((n : Int) == 0) = false := by rw [beq_eq_false_iff_ne]; omega
            rw [e, Bool.false_or]
            by_cases hy : y = 0
            · subst hy; rfl
            · have : ((y : Int) != 0) = true := by rw [bne_iff_ne]; omega
              rw [this]; simp [hy])
          clear hs hn HR h1 h2 h3 h4 hv hy hc hk
          go_enter Try.func39, Try.ntmps39
          go_wp2_with fail
          go_ret
          refine ⟨?_, (Mods.refl _ _).alloc _⟩
          show Ending.returned (Value.bool ((n : Int) == 0 || (y : Int) != 0)) = _
          rw [hyI.out]
end Go.Proofs.Ytcncgjiaefjmhaa
