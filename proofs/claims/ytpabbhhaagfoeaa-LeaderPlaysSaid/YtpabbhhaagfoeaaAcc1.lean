/- Votes of the package's: a slice of structs whose bytes lie elsewhere, in blocks of D. -/
import Derived.Test.YtpabbhhaagfoeaaAcc0
import Derived.Test.YtpabbhhaagfoeaaSlS
import Derived.Test.YtpabbhhaagfoeaaMemX
namespace Go.Proofs.Ytpabbhhaagfoeaa
set_option maxRecDepth 100000
open Go.RowKit
set_option linter.unusedVariables false
set_option linter.unusedSimpArgs false

/-- A vote where it lies. -/
structure VtP where
  slot : Nat
  bal : Nat
  A : Option Addr
  c : Nat
  val : List UInt8
def VtP.plain (q : VtP) : PVt := ⟨q.slot, q.bal, q.val⟩
def VtP.cells (q : VtP) : List Value := [.int .u64 (q.slot : Int), .int .u64 (q.bal : Int), .slice q.A q.val.length q.c]
def pvc (L : List VtP) : List Value := L.flatMap VtP.cells
theorem pvc_append (L M : List VtP) : pvc (L ++ M) = pvc L ++ pvc M := by simp [pvc]
theorem pvc_length : ∀ (l : List VtP), (pvc l).length = l.length * 3
  | [] => rfl
  | x :: l => by
    have := pvc_length l
    simp only [pvc, List.flatMap_cons, List.length_append, List.length_cons] at this ⊢
    rw [this]
    simp [VtP.cells]; omega
theorem pvc_at : ∀ (l : List VtP) (j : Nat) (h : j < l.length), (pvc l)[j * 3]? = some (.int .u64 (l[j].slot : Int)) ∧ (pvc l)[j * 3 + 1]? = some (.int .u64 (l[j].bal : Int)) ∧ (pvc l)[j * 3 + 2]? = some (.slice l[j].A l[j].val.length l[j].c)
  | x :: l, 0, h => by simp [pvc, VtP.cells]
  | x :: l, j + 1, h => by
    have := pvc_at l j (by simpa using h)
    rw [show (j + 1) * 3 = j * 3 + 3 by omega]
    simp only [pvc, List.flatMap_cons, VtP.cells, List.getElem_cons_succ] at this ⊢
    exact ⟨by simpa using this.1, by simpa using this.2.1, by simpa using this.2.2⟩
theorem pvc_one (l : List VtP) : ∀ u ∈ pvc l, u.oneCell' = true := by
  intro u hu
  obtain ⟨x, _, hx⟩ := List.mem_flatMap.1 hu
  simp [VtP.cells] at hx
  rcases hx with rfl | rfl | rfl <;> rfl
/-- A slice that reads as votes; what holds them lies in D. -/
structure PVs (W : World) (D : Nat → Prop) (A : Option Addr) (c n : Nat) (L : List VtP) : Prop where
  len : L.length = n
  sl : SlS 3 W A c n (pvc L)
  at_ : 0 < n → ∀ a, A = some a → D a.block
  bys : ∀ q ∈ L, Sl W q.A q.c (bts q.val) ∧ (bts q.val ≠ [] → ∀ a, q.A = some a → D a.block) ∧ q.slot < 18446744073709551616 ∧ q.bal < 18446744073709551616
section
variable {S D D' : Nat → Prop} {W W' : World} {A : Option Addr} {c n : Nat} {L : List VtP}
theorem PVs.mods (h : PVs W D A c n L) (hm : Mods S W W') (hS : ∀ k, S k → ¬ D k) : PVs W' D A c n L := by
  refine ⟨h.len, ?_, h.at_, fun q hq => ?_⟩
  · refine ⟨h.sl.len, h.sl.le, h.sl.max, ?_⟩
    by_cases hn : n = 0
    · subst hn
      exact .inl (List.eq_nil_of_length_eq_zero (by rw [h.sl.len]))
    · exact h.sl.has.mods hm (fun a ha hs => hS _ hs (h.at_ (by omega) a ha))
  · obtain ⟨h1, h2, h3⟩ := h.bys q hq
    exact ⟨h1.mods' hm (fun hne a ha hs => hS _ hs (h2 hne a ha)), h2, h3⟩
theorem PVs.nil (h : PVs W D A c n L) (hm : Mods Nil W W') : PVs W' D A c n L := h.mods hm (fun _ h => h.elim)
theorem PVs.sub (h : PVs W D A c n L) (hD : ∀ k, D k → D' k) : PVs W D' A c n L :=
  ⟨h.len, h.sl, fun h0 a ha => hD _ (h.at_ h0 a ha), fun q hq => ⟨(h.bys q hq).1, fun hne a ha => hD _ ((h.bys q hq).2.1 hne a ha), (h.bys q hq).2.2⟩⟩
theorem PVs.none_ (W : World) (D : Nat → Prop) : PVs W D none 0 0 [] := ⟨rfl, SlS.none_ _ _, fun h => by omega, fun q h => by cases h⟩
theorem PVs.cells (h : PVs W D A c n L) {j : Nat} {q : VtP} (hq : L[j]? = some q) : ∃ b off, A = some ⟨b, off, none⟩ ∧ b < W.heap.size ∧ W.cell? ⟨b, off + j * 3, none⟩ = some (.int .u64 (q.slot : Int)) ∧ W.cell? ⟨b, off + j * 3 + 1, none⟩ = some (.int .u64 (q.bal : Int)) ∧ W.cell? ⟨b, off + j * 3 + 2, none⟩ = some (.slice q.A q.val.length q.c) := by
  obtain ⟨hj, hx⟩ := List.getElem?_eq_some_iff.1 hq
  obtain ⟨b, off, hA, hb, hc⟩ := h.sl.at_ (by rw [← h.len]; omega) (by omega)
  obtain ⟨h0, h1, h2⟩ := pvc_at L j hj
  rw [hx] at h0 h1 h2
  exact ⟨b, off, hA, hb, hc _ _ h0, by rw [Nat.add_assoc]; exact hc _ _ h1, by rw [Nat.add_assoc]; exact hc _ _ h2⟩
/-- An element's cells, where the slice's place is told. -/
theorem PVs.cell3 {b off : Nat} (h : PVs W D (some ⟨b, off, none⟩) c n L) {j : Nat} {q : VtP} (hq : L[j]? = some q) : W.cell? ⟨b, off + j * 3, none⟩ = some (.int .u64 (q.slot : Int)) ∧ W.cell? ⟨b, off + j * 3 + 1, none⟩ = some (.int .u64 (q.bal : Int)) ∧ W.cell? ⟨b, off + j * 3 + 2, none⟩ = some (.slice q.A q.val.length q.c) := by
  obtain ⟨b', off', hA, _, h1, h2, h3⟩ := h.cells hq
  injection hA with hA
  injection hA with e1 e2
  subst e1; subst e2
  exact ⟨h1, h2, h3⟩
end
end Go.Proofs.Ytpabbhhaagfoeaa
