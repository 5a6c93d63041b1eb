/- Package net: what is lost with a node: the test, the first place. -/
import Derived.Test.YtglaenoaeiendaaNet5
namespace Go.Proofs.Ytglaenoaeiendaa
set_option maxRecDepth 100000
open Go.RowKit
set_option linter.unusedVariables false

/-- A packet that is neither from the node nor to it. -/
def keepB (k : Int) (p : Pk) : Bool := !(p.f == k || p.t == k)
theorem keepB_no {k : Int} {p : Pk} : keepB k p = false ↔ p.f = k ∨ p.t = k := by simp [keepB]; grind
theorem keepB_yes {k : Int} {p : Pk} : keepB k p = true ↔ p.f ≠ k ∧ p.t ≠ k := by simp [keepB]

theorem clear1_yes {w : World} {bx : Nat} {k f t : Int} {A : Option Addr} {m c : Nat} (hc : w.cell? ⟨bx, 0, none⟩ = some (.int .i64 k)) (hx : bx < w.heap.size) (h : f = k ∨ t = k) :
    Calls Try.prog 20 #[.agg #[.int .i64 f, .int .i64 t, .slice A m c], .pointer (some ⟨bx, 0, none⟩)] w fun e w' => e = .returned (.bool true) ∧ w' = w.alloc (.cells #[.int .i64 f, .int .i64 t, .slice A m c] 32) := by
  obtain ⟨d0, d1, d2, d3, d4, d5⟩ := (Blk.new w 32 #[.int .i64 f, .int .i64 t, .slice A m c]).three
  have hc' : (w.alloc (.cells #[.int .i64 f, .int .i64 t, .slice A m c] 32)).cell? ⟨bx, 0, none⟩ = some (.int .i64 k) := (World.cell?_of_block (((Mods.refl Nil w).alloc (.cells #[.int .i64 f, .int .i64 t, .slice A m c] 32)).block bx hx (fun h => h))).trans hc
  clear hc
  by_cases h1 : f = k
  · subst h1
    clear h
    go_enter Try.func20, Try.ntmps20
    go_wp2
    go_ret
    exact ⟨rfl, rfl⟩
  · obtain rfl : t = k := by rcases h with h | h; exact absurd h h1; exact h
    have hb : (f == t) = false := by rw [beq_eq_false_iff_ne]; exact h1
    clear h
    go_enter Try.func20, Try.ntmps20
    go_wp2
    go_ret
    exact ⟨rfl, rfl⟩
theorem clear1_no {w : World} {bx : Nat} {k f t : Int} {A : Option Addr} {m c : Nat} (hc : w.cell? ⟨bx, 0, none⟩ = some (.int .i64 k)) (hx : bx < w.heap.size) (h1 : f ≠ k) (h2 : t ≠ k) :
    Calls Try.prog 20 #[.agg #[.int .i64 f, .int .i64 t, .slice A m c], .pointer (some ⟨bx, 0, none⟩)] w fun e w' => e = .returned (.bool false) ∧ w' = w.alloc (.cells #[.int .i64 f, .int .i64 t, .slice A m c] 32) := by
  obtain ⟨d0, d1, d2, d3, d4, d5⟩ := (Blk.new w 32 #[.int .i64 f, .int .i64 t, .slice A m c]).three
  have hc' : (w.alloc (.cells #[.int .i64 f, .int .i64 t, .slice A m c] 32)).cell? ⟨bx, 0, none⟩ = some (.int .i64 k) := (World.cell?_of_block (((Mods.refl Nil w).alloc (.cells #[.int .i64 f, .int .i64 t, .slice A m c] 32)).block bx hx (fun h => h))).trans hc
  have hb : (f == k) = false := by rw [beq_eq_false_iff_ne]; exact h1
  have hb2 : (t == k) = false := by rw [beq_eq_false_iff_ne]; exact h2
  clear hc
  go_enter Try.func20, Try.ntmps20
  go_wp2
  go_ret
  exact ⟨rfl, rfl⟩

/-- Packets that can be read in a row. -/
def RowOf (w : World) (A : Option Addr) (l : List Pk) : Prop := 0 < l.length → ∃ g, A = some ⟨g, 0, none⟩ ∧ g < w.heap.size ∧ ∀ j u, (pks l)[j]? = some u → w.cell? ⟨g, j, none⟩ = some u
theorem RowOf.at_ {w w' : World} {A : Option Addr} {l : List Pk} (h : RowOf w A l) {S : Nat → Prop} (hm : Mods S w w') (hS : ∀ g, A = some ⟨g, 0, none⟩ → ¬ S g) {j : Nat} (hj : j < l.length) :
    ∃ g, A = some ⟨g, 0, none⟩ ∧ w'.cell? ⟨g, j * 3, none⟩ = some (.int .i64 l[j].f) ∧ w'.cell? ⟨g, j * 3 + 1, none⟩ = some (.int .i64 l[j].t) ∧ w'.cell? ⟨g, j * 3 + 2, none⟩ = some (.slice l[j].A l[j].xs.length l[j].c) := by
  obtain ⟨g, hA, hlt, hc⟩ := h (by omega)
  obtain ⟨p0, p1, p2⟩ := pks_at l j hj
  have e : ∀ j u, (pks l)[j]? = some u → w'.cell? ⟨g, j, none⟩ = some u := fun j u hu => (World.cell?_of_block (hm.block g hlt (hS g hA))).trans (hc j u hu)
  exact ⟨g, hA, e _ _ p0, e _ _ p1, e _ _ p2⟩

set_option maxHeartbeats 1600000 in
theorem nindex_none {w : World} {bx n c : Nat} {k : Int} {A : Option Addr} {l : List Pk} (hc : w.cell? ⟨bx, 0, none⟩ = some (.int .i64 k)) (hr : RowOf w A l) (hn : l.length = n) (h4 : n ≤ 4096) (hk : ∀ p ∈ l, keepB k p = true) :
    Calls Try.prog 24 #[.slice A n c, .func (.func 20) #[] #[.pointer (some ⟨bx, 0, none⟩)]] w fun e w' => e = .returned (.int .i64 (-1)) ∧ Mods Nil w w' := by
  have hx : bx < w.heap.size := World.block_lt_of_cell? w _ hc
  have HC := Lib.hid hc
  have HR := Lib.hid hr
  have HN := Lib.hid hn
  have HK := Lib.hid hk
  clear hc hr hn hk
  go_enter Try.func24, Try.ntmps24
  go_wp2
  go_loopw [8] (fun i wr => ∃ j : Nat, j ≤ n ∧ i = .int .i64 j ∧ Mods Nil w wr) (fun i _ => n - (intOf i).toNat)
  case atStart => exact ⟨0, by omega, rfl, Mods.refl _ _⟩
  case round =>
    obtain ⟨j, hj, rfl, hmo⟩ := hrel
    by_cases hlt : j < n
    · have hjI : (j : Int) < (n : Int) := by omega
      have hjl : j < l.length := by rw [HN.out]; exact hlt
      obtain ⟨g, rfl, e0, e1, e2⟩ := HR.out.at_ hmo (fun _ _ h => h) hjl
      obtain ⟨h1, h2⟩ := keepB_yes.1 (HK.out _ (List.getElem_mem hjl))
      have hcw : wr.cell? ⟨bx, 0, none⟩ = some (.int .i64 k) := (World.cell?_of_block (hmo.block bx hx (fun h => h))).trans HC.out
      have hxw : bx < wr.heap.size := by have := hmo.size; omega
      have HMO := Lib.hid hmo
      generalize l[j].f = f at e0 h1
      generalize l[j].t = t at e1 h2
      generalize l[j].A = pA at e2
      generalize l[j].xs.length = m at e2
      generalize l[j].c = pc at e2
      have HCL := Lib.hid (clear1_no (A := pA) (m := m) (c := pc) hcw hxw h1 h2)
      clear hmo h1 h2 hcw hxw hjl
      go_wp2_with (go_at_call 20; refine (HCL.out).mono ?_; rintro e w1 ⟨rfl, rfl⟩)
      exact ⟨⟨j + 1, by omega, by go_num, HMO.out.alloc _⟩, by simp [intOf]; omega⟩
    · have HMO := Lib.hid hmo
      clear hmo
      go_wp2
      go_ret
      exact ⟨rfl, HMO.out⟩
set_option maxHeartbeats 1600000 in
theorem nindex_at {w : World} {bx n c i : Nat} {k : Int} {A : Option Addr} {l : List Pk} (hc : w.cell? ⟨bx, 0, none⟩ = some (.int .i64 k)) (hr : RowOf w A l) (hn : l.length = n) (h4 : n ≤ 4096) (hi : i < n) (hk : ∀ j q, j < i → l[j]? = some q → keepB k q = true) (hki : ∀ q, l[i]? = some q → keepB k q = false) :
    Calls Try.prog 24 #[.slice A n c, .func (.func 20) #[] #[.pointer (some ⟨bx, 0, none⟩)]] w fun e w' => e = .returned (.int .i64 (i : Int)) ∧ Mods Nil w w' := by
  have hx : bx < w.heap.size := World.block_lt_of_cell? w _ hc
  have HC := Lib.hid hc
  have HR := Lib.hid hr
  have HN := Lib.hid hn
  have HK := Lib.hid hk
  have HKI := Lib.hid hki
  clear hc hr hn hk hki
  go_enter Try.func24, Try.ntmps24
  go_wp2
  go_loopw [8] (fun x wr => ∃ j : Nat, j ≤ i ∧ x = .int .i64 j ∧ Mods Nil w wr) (fun x _ => n - (intOf x).toNat)
  case atStart => exact ⟨0, by omega, rfl, Mods.refl _ _⟩
  case round =>
    obtain ⟨j, hj, rfl, hmo⟩ := hrel
    have hlt : j < n := by omega
    have hjI : (j : Int) < (n : Int) := by omega
    have hjl : j < l.length := by rw [HN.out]; exact hlt
    obtain ⟨g, rfl, e0, e1, e2⟩ := HR.out.at_ hmo (fun _ _ h => h) hjl
    have hcw : wr.cell? ⟨bx, 0, none⟩ = some (.int .i64 k) := (World.cell?_of_block (hmo.block bx hx (fun h => h))).trans HC.out
    have hxw : bx < wr.heap.size := by have := hmo.size; omega
    have HMO := Lib.hid hmo
    by_cases hji : j < i
    · obtain ⟨h1, h2⟩ := keepB_yes.1 (HK.out j _ hji (List.getElem?_eq_getElem hjl))
      generalize l[j].f = f at e0 h1
      generalize l[j].t = t at e1 h2
      generalize l[j].A = pA at e2
      generalize l[j].xs.length = m at e2
      generalize l[j].c = pc at e2
      have HCL := Lib.hid (clear1_no (A := pA) (m := m) (c := pc) hcw hxw h1 h2)
      clear hmo h1 h2 hcw hxw hjl
      go_wp2_with (go_at_call 20; refine (HCL.out).mono ?_; rintro e w1 ⟨rfl, rfl⟩)
      exact ⟨⟨j + 1, by omega, by go_num, HMO.out.alloc _⟩, by simp [intOf]; omega⟩
    · obtain rfl : i = j := by omega
      have h1 := keepB_no.1 (HKI.out _ (List.getElem?_eq_getElem hjl))
      generalize l[i].f = f at e0 h1
      generalize l[i].t = t at e1 h1
      generalize l[i].A = pA at e2
      generalize l[i].xs.length = m at e2
      generalize l[i].c = pc at e2
      have HCL := Lib.hid (clear1_yes (A := pA) (m := m) (c := pc) hcw hxw h1)
      clear hmo h1 hcw hxw hjl hji hj
      go_wp2_with (go_at_call 20; refine (HCL.out).mono ?_; rintro e w1 ⟨rfl, rfl⟩)
      go_ret
      exact ⟨rfl, HMO.out.alloc _⟩
end Go.Proofs.Ytglaenoaeiendaa
