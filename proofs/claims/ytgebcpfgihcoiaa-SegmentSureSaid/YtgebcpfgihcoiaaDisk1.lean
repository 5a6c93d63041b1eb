/- Package disk in memory: the disk; which blocks its calls may write. -/
import Derived.Test.YtgebcpfgihcoiaaBaseM
import Derived.Test.YtgebcpfgihcoiaaArr
import Derived.Test.YtgebcpfgihcoiaaDisk0
namespace Go.Proofs.Ytgebcpfgihcoiaa
set_option maxRecDepth 100000
open Go.RowKit
set_option linter.unusedVariables false

theorem infoBlock : (Try.prog.info? 103).map (fun i => (i.zero, i.size, i.bytes)) = some (some (.agg (Array.replicate 64 (.int .u8 0))), 64, 64) := by kernel_rfl
theorem infoWrite : (Try.prog.info? 105).map (fun i => (i.zero, i.size, i.bytes)) = some (some (.agg (#[.int .i64 0] ++ Array.replicate 64 (.int .u8 0))), 65, 72) := by kernel_rfl

/-- The cells of sure blocks; of a write that waits; of all that wait. -/
def sureC (L : List (List UInt8)) : List Value := L.flatMap bts
def wC (x : Nat × List UInt8) : List Value := .int .i64 (x.1 : Int) :: bts x.2
def waitsC (W : List (Nat × List UInt8)) : List Value := W.flatMap wC
theorem wC_length {x : Nat × List UInt8} (h : x.2.length = 64) : (wC x).length = 65 := by simp [wC, h]
theorem bts_64 {b : List UInt8} (h : b.length = 64) : (bts b).length = 64 := by simp [h]
theorem wC_one (x : Nat × List UInt8) : ∀ u ∈ wC x, u.oneCell' = true := by
  intro u hu
  rcases List.mem_cons.1 hu with rfl | hu
  · rfl
  · exact bts_one _ u hu
theorem PD.Ok.sureL {d : PD} (h : d.Ok) : ∀ b ∈ d.L, (bts b).length = 64 := fun b hb => bts_64 (h.sure b hb)
theorem PD.Ok.waitsL {d : PD} (h : d.Ok) : ∀ x ∈ d.W, (wC x).length = 65 := fun x hx => wC_length (h.waits x hx).2

/-- What the count's cell says. -/
def LeftOk (z left : Int) : Prop := z ≤ 9223372036854775807 ∧ ((0 ≤ z ∧ left = z) ∨ (z < 0 ∧ left = -1))
/-- The disk in memory: its cells, its two rows. -/
structure DiskIn (w : World) (base db : Nat) (vS vW : Value) (z : Int) (d : PD) : Prop where
  blk : Blk w db 78 #[vS, vW, .int .i64 z, .bool d.down]
  sure : w.ownsRow base 103 64 vS d.L.length (sureC d.L)
  waits : w.ownsRow base 105 65 vW d.W.length (waitsC d.W)
  le : base ≤ db
  left : LeftOk z d.left
  ok : d.Ok
def DiskAt (w : World) (base db : Nat) (d : PD) : Prop := ∃ vS vW z, DiskIn w base db vS vW z d
/-- The blocks that a call on a disk may write, by their types. -/
def DS (base : Nat) (w : World) : Nat → Prop := fun k => base ≤ k ∧ ∃ t cs, Blk w k t cs ∧ (t = 78 ∨ t = 103 ∨ t = 105)
def DM (base : Nat) (w w' : World) : Prop := Mods (DS base w) w w'
section
variable {w w' w0 w1 w2 : World} {base db : Nat} {d : PD} {vS vW : Value} {z : Int}
theorem DM.refl (base : Nat) (w : World) : DM base w w := Mods.refl _ _
theorem DM.trans (h : DM base w w1) (k : DM base w1 w2) : DM base w w2 := by
  refine Mods.trans2 h k (fun i hi hs => ?_)
  refine Classical.byContradiction fun hn => ?_
  have hb := h.block i hi hn
  obtain ⟨h1, t, cs, h2, h3⟩ := hs
  exact hn ⟨h1, t, cs, hb.symm.trans h2, h3⟩
theorem DM.nil (h : Mods Nil w w') : DM base w w' := h.mono (fun _ _ h => h.elim)
theorem DM.nilTrans (h : Mods Nil w0 w) (hb : w0.heap.size ≤ base) (k : DM base w w') : Mods Nil w0 w' := h.nil_trans k (fun i hi => Nat.le_trans hb hi.1)
theorem DM.size (h : DM base w w') : w.heap.size ≤ w'.heap.size := Mods.size h
theorem Blk.dm {g : Nat} {t : TypeId} {cs : Array Value} (h : Blk w g t cs) (hm : DM base w w') (ht : t ≠ 78 ∧ t ≠ 103 ∧ t ≠ 105) : Blk w' g t cs := h.mods hm (fun hs => by
  obtain ⟨_, t2, cs2, h2, h3⟩ := hs
  have : t = t2 := by
    have e := Eq.trans (Eq.symm h) h2
    injection e with e
    injection e
  subst this
  rcases h3 with h3 | h3 | h3
  · exact ht.1 h3
  · exact ht.2.1 h3
  · exact ht.2.2 h3)
/-- A slice that no call on the disk changes. -/
def Far (base : Nat) (w : World) (A : Option Addr) : Prop := ∀ a, A = some a → a.block < base ∨ ∃ t cs, Blk w a.block t cs ∧ t ≠ 78 ∧ t ≠ 103 ∧ t ≠ 105
theorem Far.off {A : Option Addr} (h : Far base w A) : Off (DS base w) A := by
  intro a ha hs
  rcases h a ha with h1 | ⟨t, cs, h1, h2, h3, h4⟩
  · have := hs.1; omega
  · obtain ⟨_, t2, cs2, k2, k3⟩ := hs
    have : t = t2 := by
      have e := Eq.trans (Eq.symm h1) k2
      injection e with e
      injection e
    subst this
    rcases k3 with k3 | k3 | k3
    · exact h2 k3
    · exact h3 k3
    · exact h4 k3
theorem Far.dm {A : Option Addr} (h : Far base w A) (hm : DM base w w') : Far base w' A := fun a ha => by
  rcases h a ha with h1 | ⟨t, cs, h1, h2⟩
  · exact .inl h1
  · exact .inr ⟨t, cs, h1.dm hm h2, h2⟩
/-- Bytes that no call on the disk changes. -/
def Bs (base : Nat) (w : World) (A : Option Addr) (c : Nat) (xs : List UInt8) : Prop := Sl w A c (bts xs) ∧ (xs ≠ [] → Far base w A)
theorem bts_ne6 {xs : List UInt8} : bts xs ≠ [] ↔ xs ≠ [] := by cases xs <;> simp [bts]
theorem Bs.dm {A : Option Addr} {c : Nat} {xs : List UInt8} (h : Bs base w A c xs) (hm : DM base w w') : Bs base w' A c xs :=
  ⟨h.1.mods' hm (fun hx => (h.2 (bts_ne6.1 hx)).off), fun hx => (h.2 hx).dm hm⟩
theorem Bs.nil {A : Option Addr} {c : Nat} {xs : List UInt8} (h : Bs base w A c xs) (hm : Mods Nil w w') : Bs base w' A c xs := h.dm (DM.nil hm)
/-- What was handed in. -/
theorem Bs.arg {A : Option Addr} {c : Nat} {xs : List UInt8} (h : Sl w A c (bts xs)) (hb : w.heap.size ≤ base) : Bs base w A c xs :=
  ⟨h, fun hx a ha => .inl (Nat.lt_of_lt_of_le (h.old (bts_ne6.2 hx) a ha) hb)⟩
theorem DiskIn.nil (h : DiskIn w base db vS vW z d) (hm : Mods Nil w w') : DiskIn w' base db vS vW z d :=
  ⟨h.blk.mods hm (fun h => h), own_mods h.sure hm (fun _ _ h => h), own_mods h.waits hm (fun _ _ h => h), h.le, h.left, h.ok⟩
theorem DiskAt.nil (h : DiskAt w base db d) (hm : Mods Nil w w') : DiskAt w' base db d := by
  obtain ⟨vS, vW, z, h⟩ := h
  exact ⟨vS, vW, z, h.nil hm⟩
theorem Blk.four {g : Nat} {t : TypeId} {a b c e : Value} (h : Blk w g t #[a, b, c, e]) : (w.cell? ⟨g, 0, none⟩ = some a ∧ w.cell? ⟨g, 1, none⟩ = some b ∧ w.cell? ⟨g, 2, none⟩ = some c ∧ w.cell? ⟨g, 3, none⟩ = some e) ∧ w.frozen? ⟨g, 0, none⟩ = false ∧ w.frozen? ⟨g, 1, none⟩ = false ∧ w.frozen? ⟨g, 2, none⟩ = false ∧ w.frozen? ⟨g, 3, none⟩ = false :=
  ⟨⟨by simpa using h.cell 0, by simpa using h.cell 1, by simpa using h.cell 2, by simpa using h.cell 3⟩, h.frozen 0, h.frozen 1, h.frozen 2, h.frozen 3⟩
/-- A row of the call's own: where it lies, its length. -/
theorem own_form {n size : Nat} {e : TypeId} {v : Value} {xs : List Value} (h : w.ownsRow base e size v n xs) : ∃ A c, v = .slice A n c ∧ n ≤ c ∧ c ≤ maxLen := by
  rcases h.2 with ⟨rfl, rfl⟩ | ⟨g, cap, cur, rfl, hb, hgg, h1, h2, h3, h4⟩
  · exact ⟨none, 0, rfl, Nat.le_refl _, Nat.zero_le _⟩
  · exact ⟨_, cap, rfl, h1, h2⟩
theorem own_ds {n size : Nat} {e : TypeId} {v : Value} {xs : List Value} (h : w.ownsRow base e size v n xs) (he : e = 78 ∨ e = 103 ∨ e = 105) : ∀ k, v.ownBlock = some k → DS base w k := by
  intro k hk
  rcases h.2 with ⟨rfl, rfl⟩ | ⟨g, cap, cur, rfl, hb, hgg, h1, h2, h3, h4⟩
  · simp [Value.ownBlock] at hk
  · simp [Value.ownBlock] at hk
    subst hk
    exact ⟨hb, e, cur, hgg, he⟩
theorem DiskIn.ds (h : DiskIn w base db vS vW z d) : DS base w db := ⟨h.le, _, _, h.blk, .inl rfl⟩
/-- One of the disk's own two cells is another one. -/
theorem DiskIn.setLeft (h : DiskIn w base db vS vW z d) {z2 left2 : Int} (hz : LeftOk z2 left2) : DiskIn (w.setCell ⟨db, 2, none⟩ (.int .i64 z2)) base db vS vW z2 { d with left := left2 } ∧ DM base w (w.setCell ⟨db, 2, none⟩ (.int .i64 z2)) := by
  have hm : Mods (fun k => k = db) w (w.setCell ⟨db, 2, none⟩ (.int .i64 z2)) := Mods.setCell (S := fun k => k = db) (p := ⟨db, 2, none⟩) (Mods.refl _ _) (fun _ => rfl) _
  refine ⟨⟨by simpa using h.blk.set_ 2 (.int .i64 z2), own_mods h.sure hm (fun k hk e => own_blk_ne h.sure h.blk (by decide) (by rw [hk, e])), own_mods h.waits hm (fun k hk e => own_blk_ne h.waits h.blk (by decide) (by rw [hk, e])), h.le, hz, h.ok.of rfl rfl⟩, hm.mono (fun k _ e => by rw [e]; exact h.ds)⟩
theorem DiskIn.setDown (h : DiskIn w base db vS vW z d) (b : Bool) : DiskIn (w.setCell ⟨db, 3, none⟩ (.bool b)) base db vS vW z { d with down := b } ∧ DM base w (w.setCell ⟨db, 3, none⟩ (.bool b)) := by
  have hm : Mods (fun k => k = db) w (w.setCell ⟨db, 3, none⟩ (.bool b)) := Mods.setCell (S := fun k => k = db) (p := ⟨db, 3, none⟩) (Mods.refl _ _) (fun _ => rfl) _
  refine ⟨⟨by simpa using h.blk.set_ 3 (.bool b), own_mods h.sure hm (fun k hk e => own_blk_ne h.sure h.blk (by decide) (by rw [hk, e])), own_mods h.waits hm (fun k hk e => own_blk_ne h.waits h.blk (by decide) (by rw [hk, e])), h.le, h.left, h.ok.of rfl rfl⟩, hm.mono (fun k _ e => by rw [e]; exact h.ds)⟩
end
end Go.Proofs.Ytgebcpfgihcoiaa
