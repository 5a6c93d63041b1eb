/- Package net in memory: packets, the net; what the blocks that others write leave as it is. -/
import Derived.Test.YtglaenoaeiendaaBaseM
import Derived.Test.YtglaenoaeiendaaOwnRow
namespace Go.Proofs.Ytglaenoaeiendaa
set_option maxRecDepth 100000
open Go.RowKit
set_option linter.unusedVariables false

theorem infoPacket : (Try.prog.info? 32).map (fun i => (i.zero, i.size, i.bytes)) = some (some (.agg #[.int .i64 0, .int .i64 0, .slice none 0 0]), 3, 40) := by kernel_rfl
theorem own_kind {w : World} {base size n : Nat} {e : TypeId} {v : Value} {xs : List Value} (h : w.ownsRow base e size v n xs) : ∀ k, v.ownBlock = some k → base ≤ k ∧ ∃ cs, Blk w k e cs := by
  intro k hk
  refine ⟨(h.lt k hk).1, ?_⟩
  rcases h.2 with ⟨rfl, _⟩ | ⟨g, cap, cur, rfl, _, hb, _⟩
  · simp [Value.ownBlock] at hk
  · simp [Value.ownBlock] at hk
    subst hk
    exact ⟨cur, hb⟩

/-- A packet in memory: from, to, where its bytes lie, their room, its bytes. -/
structure Pk where
  f : Int
  t : Int
  A : Option Addr
  c : Nat
  xs : List UInt8
def Pk.cells (p : Pk) : List Value := [.int .i64 p.f, .int .i64 p.t, .slice p.A p.xs.length p.c]
def Pk.agg (p : Pk) : Value := .agg #[.int .i64 p.f, .int .i64 p.t, .slice p.A p.xs.length p.c]
/-- What of it the document speaks of. -/
def Pk.core (p : Pk) : Int × Int × List UInt8 := (p.f, p.t, p.xs)
/-- Its bytes, if it has any, lie at base or behind, in a block of bytes. -/
def Pk.ok (base : Nat) (w : World) (p : Pk) : Prop := Sl w p.A p.c (bts p.xs) ∧ (p.xs ≠ [] → ∀ a, p.A = some a → base ≤ a.block ∧ ∃ cs, Blk w a.block 5 cs)
theorem bts_ne {xs : List UInt8} : bts xs ≠ [] ↔ xs ≠ [] := by cases xs <;> simp [bts]
theorem Pk.ok.mods {S : Nat → Prop} {base : Nat} {w w' : World} {p : Pk} (h : p.ok base w) (hm : Mods S w w') (hS : p.xs ≠ [] → ∀ a, p.A = some a → ¬ S a.block) : p.ok base w' :=
  ⟨h.1.mods' hm (fun hx a ha => hS (bts_ne.1 hx) a ha), fun hx a ha => ⟨(h.2 hx a ha).1, by obtain ⟨cs, hb⟩ := (h.2 hx a ha).2; exact ⟨cs, hb.mods hm (hS hx a ha)⟩⟩⟩
def pks (l : List Pk) : List Value := l.flatMap Pk.cells
theorem pks_append (l m : List Pk) : pks (l ++ m) = pks l ++ pks m := by simp [pks]
theorem pks_cons (p : Pk) (l : List Pk) : pks (p :: l) = p.cells ++ pks l := by simp [pks]
theorem pks_length (l : List Pk) : (pks l).length = l.length * 3 := by
  induction l with
  | nil => rfl
  | cons p l ih => rw [pks_cons, List.length_append, ih]; simp [Pk.cells]; omega
theorem pks_take : ∀ (l : List Pk) (k : Nat), (pks l).take (k * 3) = pks (l.take k)
  | [], k => by simp [pks]
  | p :: l, 0 => by simp [pks]
  | p :: l, k + 1 => by
    rw [pks_cons, List.take_succ_cons, pks_cons, ← pks_take l k, show (k + 1) * 3 = p.cells.length + k * 3 by simp [Pk.cells]; omega, List.take_length_add_append]
theorem pks_drop : ∀ (l : List Pk) (k : Nat), (pks l).drop (k * 3) = pks (l.drop k)
  | [], k => by simp [pks]
  | p :: l, 0 => by simp [pks]
  | p :: l, k + 1 => by
    rw [pks_cons, List.drop_succ_cons, ← pks_drop l k, show (k + 1) * 3 = p.cells.length + k * 3 by simp [Pk.cells]; omega, List.drop_length_add_append]
theorem pks_at : ∀ (l : List Pk) (j : Nat) (h : j < l.length), (pks l)[j * 3]? = some (.int .i64 l[j].f) ∧ (pks l)[j * 3 + 1]? = some (.int .i64 l[j].t) ∧ (pks l)[j * 3 + 2]? = some (.slice l[j].A l[j].xs.length l[j].c)
  | p :: l, 0, _ => by simp [pks, Pk.cells]
  | p :: l, j + 1, h => by
    have ih := pks_at l j (by simpa using h)
    rw [pks_cons, show (j + 1) * 3 = j * 3 + 3 by omega]
    refine ⟨?_, ?_, ?_⟩
    · rw [List.getElem?_append_right (by simp [Pk.cells])]
      simpa [Pk.cells] using ih.1
    · rw [show j * 3 + 3 + 1 = (j * 3 + 1) + 3 by omega, List.getElem?_append_right (by simp [Pk.cells])]
      simpa [Pk.cells] using ih.2.1
    · rw [show j * 3 + 3 + 2 = (j * 3 + 2) + 3 by omega, List.getElem?_append_right (by simp [Pk.cells])]
      simpa [Pk.cells] using ih.2.2
theorem pks_one (l : List Pk) : ∀ u ∈ pks l, u.oneCell' = true := by
  intro u hu
  simp [pks] at hu
  obtain ⟨p, _, hp⟩ := hu
  simp [Pk.cells] at hp
  rcases hp with rfl | rfl | rfl <;> rfl
theorem pks_set : ∀ (l : List Pk) (k : Nat) (h : k < l.length) (p : Pk), (((pks l).set (k * 3) (.int .i64 p.f)).set (k * 3 + 1) (.int .i64 p.t)).set (k * 3 + 2) (.slice p.A p.xs.length p.c) = pks (l.set k p)
  | q :: l, 0, _, p => by simp [pks, Pk.cells]
  | q :: l, k + 1, h, p => by
    have ih := pks_set l k (by simpa using h) p
    rw [List.set_cons_succ, pks_cons, pks_cons, ← ih]
    have e : ∀ (ys : List Value) (j : Nat) (u : Value), (q.cells ++ ys).set (j + 3) u = q.cells ++ ys.set j u := fun ys j u => by
      simp [Pk.cells, List.set_cons_succ]
    rw [show (k + 1) * 3 = k * 3 + 3 by omega, e, show k * 3 + 3 + 1 = (k * 3 + 1) + 3 by omega, e, show k * 3 + 3 + 2 = (k * 3 + 2) + 3 by omega, e]
theorem pks_out (l : List Pk) (k : Nat) : (pks l).take (k * 3) ++ (pks l).drop ((k + 1) * 3) = pks (l.eraseIdx k) := by
  rw [pks_take, pks_drop, ← pks_append, List.eraseIdx_eq_take_drop_succ]
/-- Three cells of a new block. -/
theorem pk_new {w : World} {t : TypeId} {p : Pk} {g : Nat} (hg : g = w.heap.size) : ∀ j u, p.cells[j]? = some u → (w.alloc (.cells #[.int .i64 p.f, .int .i64 p.t, .slice p.A p.xs.length p.c] t)).cell? ((⟨g, 0, none⟩ : Addr).add j) = some u := by
  subst hg
  intro j u hu
  rw [Addr.add_lit, World.cell?_alloc_mark]
  match j, hu with
  | 0, hu => simpa [Pk.cells] using hu
  | 1, hu => simpa [Pk.cells] using hu
  | 2, hu => simpa [Pk.cells] using hu

/-- The net in memory. -/
structure NetAt (w : World) (base nb : Nat) (nodes : Nat) (v : Value) (l : List Pk) : Prop where
  blk : Blk w nb 46 #[.int .i64 (nodes : Int), v]
  own : w.ownsRow base 32 3 v l.length (pks l)
  oks : ∀ p ∈ l, p.ok base w
  le : base ≤ nb
/-- The blocks that a call on the net may write. -/
def NS (nb : Nat) (v : Value) : Nat → Prop := fun k => k = nb ∨ v.ownBlock = some k
/-- None of the net's blocks. -/
def NOff (nb : Nat) (v : Value) (l : List Pk) (k : Nat) : Prop := ¬ NS nb v k ∧ ∀ p ∈ l, p.xs ≠ [] → ∀ a, p.A = some a → a.block ≠ k
section
variable {w w' : World} {base nb nodes : Nat} {v : Value} {l : List Pk}
theorem NetAt.mods {S : Nat → Prop} (h : NetAt w base nb nodes v l) (hm : Mods S w w') (hS : ∀ k, S k → k < w.heap.size → NOff nb v l k) : NetAt w' base nb nodes v l := by
  refine ⟨h.blk.mods hm (fun hs => (hS _ hs h.blk.lt).1 (.inl rfl)), own_mods h.own hm (fun k hk hs => (hS _ hs (h.own.lt k hk).2).1 (.inr hk)), fun p hp => (h.oks p hp).mods hm (fun hx a ha hs => ?_), h.le⟩
  obtain ⟨cs, hb⟩ := ((h.oks p hp).2 hx a ha).2
  exact (hS _ hs hb.lt).2 p hp hx a ha rfl
theorem NetAt.nil (h : NetAt w base nb nodes v l) (hm : Mods Nil w w') : NetAt w' base nb nodes v l := h.mods hm (fun _ h => h.elim)
/-- What lies in a block of another type is none of those that a call may write. -/
theorem NetAt.far (h : NetAt w base nb nodes v l) {k : Nat} {t : TypeId} {cs : Array Value} (hb : Blk w k t cs) (h1 : t ≠ 46) (h2 : t ≠ 32) : ¬ NS nb v k := by
  rintro (rfl | hk)
  · exact hb.ne_ h.blk h1 rfl
  · obtain ⟨cs', hb'⟩ := (own_kind h.own k hk).2
    exact hb.ne_ hb' h2 rfl
theorem NetAt.old (h : NetAt w base nb nodes v l) {k : Nat} (hk : k < base) : ¬ NS nb v k := by
  rintro (rfl | hk2)
  · have := h.le; omega
  · have := (h.own.lt k hk2).1; omega
theorem NetAt.ok_ns (h : NetAt w base nb nodes v l) {p : Pk} (hp : p.ok base w) (hm : Mods (NS nb v) w w') : p.ok base w' := hp.mods hm (fun hx a ha => by
  obtain ⟨cs, hb⟩ := (hp.2 hx a ha).2
  exact h.far hb (by decide) (by decide))
theorem NetAt.trans_nil {w0 : World} (h : NetAt w base nb nodes v l) (hb : w0.heap.size ≤ base) (m0 : Mods Nil w0 w) (hm : Mods (NS nb v) w w') : Mods Nil w0 w' :=
  m0.nil_trans hm (fun i hi => by
    rcases hi with rfl | hi
    · exact Nat.le_trans hb h.le
    · exact Nat.le_trans hb (h.own.lt i hi).1)
theorem NetAt.ne (h : NetAt w base nb nodes v l) : v.ownBlock ≠ some nb := own_blk_ne h.own h.blk (by decide)
theorem NetAt.place (h : NetAt w base nb nodes v l) : ∃ A c, v = .slice A l.length c ∧ l.length ≤ c ∧ c ≤ maxLen ∧ (0 < l.length → ∃ g, A = some ⟨g, 0, none⟩ ∧ g < w.heap.size ∧ g ≠ nb ∧ (∀ j u, (pks l)[j]? = some u → w.cell? ⟨g, j, none⟩ = some u) ∧ ∀ j, w.frozen? ⟨g, j, none⟩ = false) := by
  rcases Nat.eq_zero_or_pos l.length with h0 | h0
  · rcases h.own.2 with ⟨rfl, _⟩ | ⟨g, cap, cur, rfl, hb, hgg, h1, h2, h3, h4⟩
    · exact ⟨none, 0, by rw [h0], by omega, by omega, fun hh => by omega⟩
    · exact ⟨_, cap, rfl, h1, h2, fun hh => by omega⟩
  · obtain ⟨g, cap, cur, rfl, hb, hgl, hB, h1, h2, h3, h4, h5, h6⟩ := own_place h.own h0
    exact ⟨_, cap, rfl, h1, h2, fun _ => ⟨g, rfl, hgl, fun e => h.ne (by rw [← e]; rfl), h5, h6⟩⟩
theorem NetAt.cells (h : NetAt w base nb nodes v l) : w.cell? ⟨nb, 0, none⟩ = some (.int .i64 (nodes : Int)) ∧ w.cell? ⟨nb, 1, none⟩ = some v ∧ w.frozen? ⟨nb, 0, none⟩ = false ∧ w.frozen? ⟨nb, 1, none⟩ = false := h.blk.two
end
end Go.Proofs.Ytglaenoaeiendaa
