/- The reference of layer 13: Get, its plain part and its boxes. -/
import Derived.Test.YthkejoabppocoaaRef13d
namespace Go.Proofs.Ythkejoabppocoaa
set_option maxRecDepth 100000
open Go.RowKit
set_option linter.unusedVariables false
set_option linter.unusedSimpArgs false

theorem readUint_down {B P : List UInt8} {s : Nat} (h : readUint 0 B = (0, P, s)) : P.length + 1 ≤ B.length := by
  unfold readUint at h
  rw [if_neg (by simp)] at h
  by_cases hn : numErr B = 0
  · rw [if_neg (by simp [hn])] at h
    obtain ⟨c, r, rfl, _, _⟩ := numErr_zero_inv hn
    simp only [Prod.mk.injEq, true_and] at h
    rw [← h.1]
    simp
  · rw [if_pos hn] at h
    simp only [Prod.mk.injEq] at h
    exact absurd h.1 hn
theorem readUint_len {E e : Int} {B P : List UInt8} {s : Nat} (h : readUint E B = (e, P, s)) : P.length ≤ B.length := by
  have := readUint_le B E
  rw [h] at this
  exact this
theorem readBytes_err {E : Int} (h : E ≠ 0) (B : List UInt8) (m : Int) : readBytes E B m = (E, B, []) := by
  unfold readBytes
  rw [readUint_err' h, if_pos h]
theorem readBytes_len {E e m : Int} {B P v : List UInt8} (h : readBytes E B m = (e, P, v)) : P.length ≤ B.length := by
  have hu := readUint_le B E
  unfold readBytes at h
  split at h
  · injection h with h1 h2
    injection h2 with h2 h3
    rw [← h2]
    exact hu
  · split at h
    · injection h with h1 h2
      injection h2 with h2 h3
      rw [← h2]
      simp
    · unfold readRaw at h
      split at h
      · injection h with h1 h2
        injection h2 with h2 h3
        rw [← h2]
        exact hu
      · split at h
        · injection h with h1 h2
          injection h2 with h2 h3
          rw [← h2]
          simp
        · split at h
          · injection h with h1 h2
            injection h2 with h2 h3
            rw [← h2]
            simp
          · injection h with h1 h2
            injection h2 with h2 h3
            rw [← h2]
            simp
            omega
/-- One vote read, as the reference reads it: behind an error what is left plays no part. -/
theorem vget_step {n : Nat} {B P1 B1 P2 B2 P3 B3 : List UInt8} {out : List PVt} {e1 e2 e3 : Int} {s b : Nat} {v : List UInt8} (h1 : readUint 0 B = (e1, P1, s)) (hB1 : e1 = 0 → B1 = P1) (h2 : readUint e1 B1 = (e2, P2, b)) (hB2 : e2 = 0 → B2 = P2) (h3 : readBytes e2 B2 32768 = (e3, P3, v)) (hB3 : e3 = 0 → B3 = P3)
    (hno : ¬ (e1 = 0 ∧ ∃ u, out.getLast? = some u ∧ s ≤ u.slot)) : vgetN (n + 1) 0 B out = vgetN n e3 B3 (out ++ [⟨s, b, v⟩]) := by
  simp only [vgetN, ne_eq, not_true, if_false]
  rw [h1]
  rw [if_neg hno]
  simp only
  by_cases he1 : e1 = 0
  · obtain rfl := hB1 he1
    rw [h2]
    simp only
    by_cases he2 : e2 = 0
    · obtain rfl := hB2 he2
      rw [h3]
      simp only
      by_cases he3 : e3 = 0
      · obtain rfl := hB3 he3
        rfl
      · rw [vgetN_err _ he3, vgetN_err _ he3]
    · rw [readBytes_err he2] at h3 ⊢
      simp only [Prod.mk.injEq] at h3 ⊢
      obtain ⟨rfl, _, rfl⟩ := h3
      rw [vgetN_err _ he2, vgetN_err _ he2]
  · rw [readUint_err' he1] at h2 ⊢
    simp only [Prod.mk.injEq] at h2 ⊢
    obtain ⟨rfl, _, rfl⟩ := h2
    rw [readBytes_err he1] at h3 ⊢
    simp only [Prod.mk.injEq] at h3 ⊢
    obtain ⟨rfl, _, rfl⟩ := h3
    rw [vgetN_err _ he1, vgetN_err _ he1]
theorem vget_form {n : Nat} {B P1 : List UInt8} {out : List PVt} {s : Nat} {u : PVt} (h1 : readUint 0 B = (0, P1, s)) (hu : out.getLast? = some u) (hs : s ≤ u.slot) : vgetN (n + 1) 0 B out = (11, []) := by
  simp only [vgetN, ne_eq, not_true, if_false]
  rw [h1, if_pos ⟨rfl, u, hu, hs⟩]

/-- The boxes of Get's walk: the reader's, the vote's; the votes that were read. -/
structure GG (w W : World) (g h : Nat) (B : List UInt8) (E : Int) (s b : Nat) (v : List UInt8) (o : Value) (m : Nat) (l : List PVt) : Prop where
  r : Blk W g 84 #[.string (strOf B), .int .i64 E]
  vt : Blk W h 47 #[.int .u64 (s : Int), .int .u64 (b : Int), .string (strOf v)]
  gw : w.heap.size ≤ g
  gh : g < h
  mm : Mods Nil w W
  own : W.ownsRow w.heap.size 47 3 o m (vtCs l)
  ne : ∀ k, o.ownBlock = some k → k ≠ h
section
variable {w W W' : World} {g h : Nat} {B : List UInt8} {E : Int} {s b m : Nat} {v : List UInt8} {o : Value} {l : List PVt}
theorem GG.nil (k : GG w W g h B E s b v o m l) (hm : Mods Nil W W') : GG w W' g h B E s b v o m l :=
  ⟨k.r.mods hm (fun h => h), k.vt.mods hm (fun h => h), k.gw, k.gh, k.mm.trans hm, own_mods k.own hm (fun _ _ h => h), k.ne⟩
theorem GG.setR (k : GG w W g h B E s b v o m l) {B' : List UInt8} {E' : Int} (hb : Blk W' g 84 #[.string (strOf B'), .int .i64 E']) (hm : Mods (fun i => i = g) W W') : GG w W' g h B' E' s b v o m l :=
  ⟨hb, k.vt.mods hm (fun e => by have := k.gh; omega), k.gw, k.gh, k.mm.nil_trans hm (fun i e => by subst e; exact k.gw), own_mods k.own hm (fun i hi e => own_blk_ne k.own k.r (by decide) (by rw [hi, e])), k.ne⟩
theorem GG.setV (k : GG w W g h B E s b v o m l) (i : Nat) (x : Value) {s' b' : Nat} {v' : List UInt8} (he : (#[.int .u64 (s : Int), .int .u64 (b : Int), .string (strOf v)] : Array Value).setIfInBounds i x = #[.int .u64 (s' : Int), .int .u64 (b' : Int), .string (strOf v')]) : GG w (W.setCell ⟨h, i, none⟩ x) g h B E s' b' v' o m l := by
  have hm : Mods (fun q => q = h) W (W.setCell ⟨h, i, none⟩ x) := Mods.setCell (S := fun q => q = h) (p := ⟨h, i, none⟩) (Mods.refl _ _) (fun _ => rfl) x
  refine ⟨k.r.mods hm (fun e => by have := k.gh; omega), ?_, k.gw, k.gh, k.mm.nil_trans hm (fun q e => by subst e; have := k.gw; have := k.gh; omega), own_mods k.own hm (fun i hi e => k.ne i hi e), k.ne⟩
  have := k.vt.set_ i x
  rw [he] at this
  exact this
theorem GG.facts (k : GG w W g h B E s b v o m l) : (W.cell? ⟨g, 0, none⟩ = some (.string (strOf B)) ∧ W.cell? ⟨g, 1, none⟩ = some (.int .i64 E)) ∧ (W.cell? ⟨h, 0, none⟩ = some (.int .u64 (s : Int)) ∧ W.cell? ⟨h, 1, none⟩ = some (.int .u64 (b : Int)) ∧ W.cell? ⟨h, 2, none⟩ = some (.string (strOf v))) ∧ W.frozen? ⟨h, 0, none⟩ = false ∧ W.frozen? ⟨h, 1, none⟩ = false ∧ W.frozen? ⟨h, 2, none⟩ = false :=
  ⟨⟨k.r.cell 0, k.r.cell 1⟩, k.vt.three, k.vt.frozen 0, k.vt.frozen 1, k.vt.frozen 2⟩
theorem GG.new (hr : Blk W g 84 #[.string (strOf B), .int .i64 E]) (hg : w.heap.size ≤ g) (hm : Mods Nil w W) (ho : W.ownsRow w.heap.size 47 3 o m (vtCs l)) : GG w (W.alloc (.cells #[.int .u64 0, .int .u64 0, .string ⟨#[]⟩] 47)) g W.heap.size B E 0 0 [] o m l :=
  ⟨hr.alloc _, Blk.new W _ _, hg, hr.lt, hm.alloc _, own_mods ho ((Mods.refl Nil W).alloc _) (fun _ _ h => h), fun k hk e => by have := (ho.lt k hk).2; omega⟩
theorem rr_info : (Try.prog.info? 84).map (·.size) = some 2 := by kernel_rfl
end
/-- The contracts as the walk meets them. -/
theorem rread13 (V : World) (B : List UInt8) (E : Int) (hB : B.length ≤ 1000000) {e : Int} {P : List UInt8} {s : Nat} (h : readUint E B = (e, P, s)) :
    Calls Try.prog 34 #[.agg #[.string (strOf B), .int .i64 E]] V fun x w' => ∃ B', x = .returned (.tuple #[.agg #[.string (strOf B'), .int .i64 e], .int .u64 (s : Int)]) ∧ (e = 0 → B' = P) ∧ B'.length ≤ B.length ∧ Mods Nil V w' := by
  have := rread_any V B E (by omega)
  rw [h] at this
  exact this
theorem rbytes13 (V : World) (B : List UInt8) (E : Int) (hB : B.length ≤ 1000000) {e : Int} {P v : List UInt8} (h : readBytes E B 32768 = (e, P, v)) :
    Calls Try.prog 35 #[.agg #[.string (strOf B), .int .i64 E], .int .i64 32768] V fun x w' => ∃ B', x = .returned (.tuple #[.agg #[.string (strOf B'), .int .i64 e], .string (strOf v)]) ∧ (e = 0 → B' = P) ∧ B'.length ≤ B.length ∧ Mods Nil V w' := by
  have := rbytesr_any V B E 32768 (by omega) (by omega)
  rw [h] at this
  exact this
end Go.Proofs.Ythkejoabppocoaa
