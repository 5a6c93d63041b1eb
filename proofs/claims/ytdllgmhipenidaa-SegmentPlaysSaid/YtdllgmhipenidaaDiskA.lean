/- Texts laid as one: Disk1, Disk2, Disk3. -/
import Derived.Test.YtdllgmhipenidaaBaseM
import Derived.Test.YtdllgmhipenidaaArrM
import Derived.Test.YtdllgmhipenidaaDisk0

section
/- Package disk in memory: the disk; which blocks its calls may write. -/
namespace Go.Proofs.Ytdllgmhipenidaa
set_option maxRecDepth 100000
open Go.RowKit
set_option linter.unusedVariables false

theorem infoBlock : (Try.prog.info? 133).map (fun i => (i.zero, i.size, i.bytes)) = some (some (.agg (Array.replicate 64 (.int .u8 0))), 64, 64) := by kernel_rfl
theorem infoWrite : (Try.prog.info? 135).map (fun i => (i.zero, i.size, i.bytes)) = some (some (.agg (#[.int .i64 0] ++ Array.replicate 64 (.int .u8 0))), 65, 72) := by kernel_rfl

/-- The cells of sure blocks; of a write that waits; of all that wait. -/
def sureC (L : List (List UInt8)) : List Value := L.flatMap bts
def wC (x : Nat × List UInt8) : List Value := .int .i64 (x.1 : Int) :: bts x.2
def waitsC (W : List (Nat × List UInt8)) : List Value := W.flatMap wC
theorem wC_length {x : Nat × List UInt8} (h : x.2.length = 64) : (wC x).length = 65 := by simp [wC, h]
theorem bts_64 {b : List UInt8} (h : b.length = 64) : (bts b).length = 64 := by simp [h]
theorem wC_one (x : Nat × List UInt8) : ∀ u ∈ wC x, u.oneCell' = true := by
  intro u hu
  rcases List.mem_cons.1 hu with rfl | hu
  · rfl
  · exact bts_one _ u hu
theorem PD.Ok.sureL {d : PD} (h : d.Ok) : ∀ b ∈ d.L, (bts b).length = 64 := fun b hb => bts_64 (h.sure b hb)
theorem PD.Ok.waitsL {d : PD} (h : d.Ok) : ∀ x ∈ d.W, (wC x).length = 65 := fun x hx => wC_length (h.waits x hx).2

/-- What the count's cell says. -/
def LeftOk (z left : Int) : Prop := z ≤ 9223372036854775807 ∧ ((0 ≤ z ∧ left = z) ∨ (z < 0 ∧ left = -1))
/-- The disk in memory: its cells, its two rows. -/
structure DiskIn (w : World) (base db : Nat) (vS vW : Value) (z : Int) (d : PD) : Prop where
  blk : Blk w db 109 #[vS, vW, .int .i64 z, .bool d.down]
  sure : w.ownsRow base 133 64 vS d.L.length (sureC d.L)
  waits : w.ownsRow base 135 65 vW d.W.length (waitsC d.W)
  le : base ≤ db
  left : LeftOk z d.left
  ok : d.Ok
def DiskAt (w : World) (base db : Nat) (d : PD) : Prop := ∃ vS vW z, DiskIn w base db vS vW z d
/-- The blocks that a call on a disk may write, by their types. -/
def DS (base : Nat) (w : World) : Nat → Prop := fun k => base ≤ k ∧ ∃ t cs, Blk w k t cs ∧ (t = 109 ∨ t = 133 ∨ t = 135)
def DM (base : Nat) (w w' : World) : Prop := Mods (DS base w) w w'
section
variable {w w' w0 w1 w2 : World} {base db : Nat} {d : PD} {vS vW : Value} {z : Int}
theorem DM.refl (base : Nat) (w : World) : DM base w w := Mods.refl _ _
theorem DM.trans (h : DM base w w1) (k : DM base w1 w2) : DM base w w2 := by
  refine Mods.trans2 h k (fun i hi hs => ?_)
  refine Classical.byContradiction fun hn => ?_
  have hb := h.block i hi hn
  obtain ⟨h1, t, cs, h2, h3⟩ := hs
  exact hn ⟨h1, t, cs, hb.symm.trans h2, h3⟩
theorem DM.nil (h : Mods Nil w w') : DM base w w' := h.mono (fun _ _ h => h.elim)
theorem DM.nilTrans (h : Mods Nil w0 w) (hb : w0.heap.size ≤ base) (k : DM base w w') : Mods Nil w0 w' := h.nil_trans k (fun i hi => Nat.le_trans hb hi.1)
theorem DM.size (h : DM base w w') : w.heap.size ≤ w'.heap.size := Mods.size h
theorem Blk.dm {g : Nat} {t : TypeId} {cs : Array Value} (h : Blk w g t cs) (hm : DM base w w') (ht : t ≠ 109 ∧ t ≠ 133 ∧ t ≠ 135) : Blk w' g t cs := h.mods hm (fun hs => by
  obtain ⟨_, t2, cs2, h2, h3⟩ := hs
  have : t = t2 := by
    have e := Eq.trans (Eq.symm h) h2
    injection e with e
    injection e
  subst this
  rcases h3 with h3 | h3 | h3
  · exact ht.1 h3
  · exact ht.2.1 h3
  · exact ht.2.2 h3)
/-- A slice that no call on the disk changes. -/
def Far (base : Nat) (w : World) (A : Option Addr) : Prop := ∀ a, A = some a → a.block < base ∨ ∃ t cs, Blk w a.block t cs ∧ t ≠ 109 ∧ t ≠ 133 ∧ t ≠ 135
theorem Far.off {A : Option Addr} (h : Far base w A) : Off (DS base w) A := by
  intro a ha hs
  rcases h a ha with h1 | ⟨t, cs, h1, h2, h3, h4⟩
  · have := hs.1; omega
  · obtain ⟨_, t2, cs2, k2, k3⟩ := hs
    have : t = t2 := by
      have e := Eq.trans (Eq.symm h1) k2
      injection e with e
      injection e
    subst this
    rcases k3 with k3 | k3 | k3
    · exact h2 k3
    · exact h3 k3
    · exact h4 k3
theorem Far.dm {A : Option Addr} (h : Far base w A) (hm : DM base w w') : Far base w' A := fun a ha => by
  rcases h a ha with h1 | ⟨t, cs, h1, h2⟩
  · exact .inl h1
  · exact .inr ⟨t, cs, h1.dm hm h2, h2⟩
/-- Bytes that no call on the disk changes. -/
def Bs (base : Nat) (w : World) (A : Option Addr) (c : Nat) (xs : List UInt8) : Prop := Sl w A c (bts xs) ∧ (xs ≠ [] → Far base w A)
theorem bts_ne6 {xs : List UInt8} : bts xs ≠ [] ↔ xs ≠ [] := by cases xs <;> simp [bts]
theorem Bs.dm {A : Option Addr} {c : Nat} {xs : List UInt8} (h : Bs base w A c xs) (hm : DM base w w') : Bs base w' A c xs :=
  ⟨h.1.mods' hm (fun hx => (h.2 (bts_ne6.1 hx)).off), fun hx => (h.2 hx).dm hm⟩
theorem Bs.nil {A : Option Addr} {c : Nat} {xs : List UInt8} (h : Bs base w A c xs) (hm : Mods Nil w w') : Bs base w' A c xs := h.dm (DM.nil hm)
/-- What was handed in. -/
theorem Bs.arg {A : Option Addr} {c : Nat} {xs : List UInt8} (h : Sl w A c (bts xs)) (hb : w.heap.size ≤ base) : Bs base w A c xs :=
  ⟨h, fun hx a ha => .inl (Nat.lt_of_lt_of_le (h.old (bts_ne6.2 hx) a ha) hb)⟩
theorem DiskIn.nil (h : DiskIn w base db vS vW z d) (hm : Mods Nil w w') : DiskIn w' base db vS vW z d :=
  ⟨h.blk.mods hm (fun h => h), own_mods h.sure hm (fun _ _ h => h), own_mods h.waits hm (fun _ _ h => h), h.le, h.left, h.ok⟩
theorem DiskAt.nil (h : DiskAt w base db d) (hm : Mods Nil w w') : DiskAt w' base db d := by
  obtain ⟨vS, vW, z, h⟩ := h
  exact ⟨vS, vW, z, h.nil hm⟩
theorem Blk.four {g : Nat} {t : TypeId} {a b c e : Value} (h : Blk w g t #[a, b, c, e]) : (w.cell? ⟨g, 0, none⟩ = some a ∧ w.cell? ⟨g, 1, none⟩ = some b ∧ w.cell? ⟨g, 2, none⟩ = some c ∧ w.cell? ⟨g, 3, none⟩ = some e) ∧ w.frozen? ⟨g, 0, none⟩ = false ∧ w.frozen? ⟨g, 1, none⟩ = false ∧ w.frozen? ⟨g, 2, none⟩ = false ∧ w.frozen? ⟨g, 3, none⟩ = false :=
  ⟨⟨by simpa using h.cell 0, by simpa using h.cell 1, by simpa using h.cell 2, by simpa using h.cell 3⟩, h.frozen 0, h.frozen 1, h.frozen 2, h.frozen 3⟩
/-- A row of the call's own: where it lies, its length. -/
theorem own_form {n size : Nat} {e : TypeId} {v : Value} {xs : List Value} (h : w.ownsRow base e size v n xs) : ∃ A c, v = .slice A n c ∧ n ≤ c ∧ c ≤ maxLen := by
  rcases h.2 with ⟨rfl, rfl⟩ | ⟨g, cap, cur, rfl, hb, hgg, h1, h2, h3, h4⟩
  · exact ⟨none, 0, rfl, Nat.le_refl _, Nat.zero_le _⟩
  · exact ⟨_, cap, rfl, h1, h2⟩
theorem own_ds {n size : Nat} {e : TypeId} {v : Value} {xs : List Value} (h : w.ownsRow base e size v n xs) (he : e = 109 ∨ e = 133 ∨ e = 135) : ∀ k, v.ownBlock = some k → DS base w k := by
  intro k hk
  rcases h.2 with ⟨rfl, rfl⟩ | ⟨g, cap, cur, rfl, hb, hgg, h1, h2, h3, h4⟩
  · simp [Value.ownBlock] at hk
  · simp [Value.ownBlock] at hk
    subst hk
    exact ⟨hb, e, cur, hgg, he⟩
theorem DiskIn.ds (h : DiskIn w base db vS vW z d) : DS base w db := ⟨h.le, _, _, h.blk, .inl rfl⟩
/-- One of the disk's own two cells is another one. -/
theorem DiskIn.setLeft (h : DiskIn w base db vS vW z d) {z2 left2 : Int} (hz : LeftOk z2 left2) : DiskIn (w.setCell ⟨db, 2, none⟩ (.int .i64 z2)) base db vS vW z2 { d with left := left2 } ∧ DM base w (w.setCell ⟨db, 2, none⟩ (.int .i64 z2)) := by
  have hm : Mods (fun k => k = db) w (w.setCell ⟨db, 2, none⟩ (.int .i64 z2)) := Mods.setCell (S := fun k => k = db) (p := ⟨db, 2, none⟩) (Mods.refl _ _) (fun _ => rfl) _
  refine ⟨⟨by simpa using h.blk.set_ 2 (.int .i64 z2), own_mods h.sure hm (fun k hk e => own_blk_ne h.sure h.blk (by decide) (by rw [hk, e])), own_mods h.waits hm (fun k hk e => own_blk_ne h.waits h.blk (by decide) (by rw [hk, e])), h.le, hz, h.ok.of rfl rfl⟩, hm.mono (fun k _ e => by rw [e]; exact h.ds)⟩
theorem DiskIn.setDown (h : DiskIn w base db vS vW z d) (b : Bool) : DiskIn (w.setCell ⟨db, 3, none⟩ (.bool b)) base db vS vW z { d with down := b } ∧ DM base w (w.setCell ⟨db, 3, none⟩ (.bool b)) := by
  have hm : Mods (fun k => k = db) w (w.setCell ⟨db, 3, none⟩ (.bool b)) := Mods.setCell (S := fun k => k = db) (p := ⟨db, 3, none⟩) (Mods.refl _ _) (fun _ => rfl) _
  refine ⟨⟨by simpa using h.blk.set_ 3 (.bool b), own_mods h.sure hm (fun k hk e => own_blk_ne h.sure h.blk (by decide) (by rw [hk, e])), own_mods h.waits hm (fun k hk e => own_blk_ne h.waits h.blk (by decide) (by rw [hk, e])), h.le, h.left, h.ok.of rfl rfl⟩, hm.mono (fun k _ e => by rw [e]; exact h.ds)⟩
end
end Go.Proofs.Ytdllgmhipenidaa
end

section
/- Package disk: New's errors; Len, Waits, Down, Stop, up, reach, count. -/
namespace Go.Proofs.Ytdllgmhipenidaa
set_option maxRecDepth 100000
open Go.RowKit
set_option linter.unusedVariables false

theorem dup_none (w : World) : Calls Try.prog 121 #[.pointer none] w fun e w' => e = .returned (.int .i64 1) ∧ w = w' := by
  go_enter Try.func121, Try.ntmps121
  go_wp2
  go_ret
  exact ⟨rfl, rfl⟩
def PD.up (d : PD) : Int := if d.down then 20 else 0
theorem dup_any {w : World} {base db : Nat} {d : PD} (h : DiskAt w base db d) : Calls Try.prog 121 #[.pointer (some ⟨db, 0, none⟩)] w fun e w' => e = .returned (.int .i64 d.up) ∧ w = w' := by
  obtain ⟨vS, vW, z, h⟩ := h
  obtain ⟨⟨-, -, -, c3⟩, -⟩ := h.blk.four
  unfold PD.up
  clear h
  generalize d.down = b at *
  cases b with
  | true =>
    go_enter Try.func121, Try.ntmps121
    go_wp2
    go_ret
    exact ⟨rfl, rfl⟩
  | false =>
    go_enter Try.func121, Try.ntmps121
    go_wp2
    go_ret
    exact ⟨rfl, rfl⟩
theorem dlen_none (w : World) : Calls Try.prog 64 #[.pointer none] w fun e w' => e = .returned (.int .i64 0) ∧ w = w' := by
  go_enter Try.func64, Try.ntmps64
  go_wp2
  go_ret
  exact ⟨rfl, rfl⟩
theorem dlen_any {w : World} {base db : Nat} {d : PD} (h : DiskAt w base db d) : Calls Try.prog 64 #[.pointer (some ⟨db, 0, none⟩)] w fun e w' => e = .returned (.int .i64 (d.L.length : Int)) ∧ w = w' := by
  obtain ⟨vS, vW, z, h⟩ := h
  obtain ⟨⟨c0, -, -, -⟩, -⟩ := h.blk.four
  obtain ⟨A, c, rfl, -⟩ := own_form h.sure
  generalize d.L.length = n at *
  clear h
  go_enter Try.func64, Try.ntmps64
  go_wp2
  go_ret
  exact ⟨rfl, rfl⟩
theorem dwaits_none (w : World) : Calls Try.prog 86 #[.pointer none] w fun e w' => e = .returned (.int .i64 0) ∧ w = w' := by
  go_enter Try.func86, Try.ntmps86
  go_wp2
  go_ret
  exact ⟨rfl, rfl⟩
theorem dwaits_any {w : World} {base db : Nat} {d : PD} (h : DiskAt w base db d) : Calls Try.prog 86 #[.pointer (some ⟨db, 0, none⟩)] w fun e w' => e = .returned (.int .i64 (d.W.length : Int)) ∧ w = w' := by
  obtain ⟨vS, vW, z, h⟩ := h
  obtain ⟨⟨-, c1, -, -⟩, -⟩ := h.blk.four
  obtain ⟨A, c, rfl, -⟩ := own_form h.waits
  generalize d.W.length = n at *
  clear h
  go_enter Try.func86, Try.ntmps86
  go_wp2
  go_ret
  exact ⟨rfl, rfl⟩
theorem ddown_none (w : World) : Calls Try.prog 85 #[.pointer none] w fun e w' => e = .returned (.bool false) ∧ w = w' := by
  go_enter Try.func85, Try.ntmps85
  go_wp2
  go_ret
  exact ⟨rfl, rfl⟩
theorem ddown_any {w : World} {base db : Nat} {d : PD} (h : DiskAt w base db d) : Calls Try.prog 85 #[.pointer (some ⟨db, 0, none⟩)] w fun e w' => e = .returned (.bool d.down) ∧ w = w' := by
  obtain ⟨vS, vW, z, h⟩ := h
  obtain ⟨⟨-, -, -, c3⟩, -⟩ := h.blk.four
  generalize d.down = b at *
  clear h
  go_enter Try.func85, Try.ntmps85
  go_wp2
  go_ret
  exact ⟨rfl, rfl⟩
theorem dstop_none (w : World) (k : Int) : Calls Try.prog 24 #[.pointer none, .int .i64 k] w fun e w' => e = .returned (.tuple #[]) ∧ w = w' := by
  go_enter Try.func24, Try.ntmps24
  go_wp2
  refine bodyPost_end (results_none rfl _ _ _) rfl ?_
  exact ⟨rfl, rfl⟩
theorem dstop_any {w : World} {base db : Nat} {d : PD} (h : DiskAt w base db d) {k : Int} (hk : k ≤ 9223372036854775807) : Calls Try.prog 24 #[.pointer (some ⟨db, 0, none⟩), .int .i64 k] w fun e w' => e = .returned (.tuple #[]) ∧ DiskAt w' base db (d.stop k) ∧ DM base w w' := by
  obtain ⟨vS, vW, z, h⟩ := h
  have hf := h.setLeft (z2 := k) (left2 := (d.stop k).left) ⟨hk, by unfold PD.stop; dsimp only; split <;> omega⟩
  have HF := Lib.hid hf
  obtain ⟨⟨-, -, c2, -⟩, -, -, f2, -⟩ := h.blk.four
  clear h hf
  go_enter Try.func24, Try.ntmps24
  go_wp2
  refine bodyPost_end (results_none rfl _ _ _) rfl ?_
  exact ⟨rfl, ⟨vS, vW, k, HF.out.1⟩, HF.out.2⟩
theorem dreach_none (w : World) (i : Int) : Calls Try.prog 79 #[.pointer none, .int .i64 i] w fun e w' => e = .returned (.int .i64 1) ∧ w = w' := by
  go_enter Try.func79, Try.ntmps79
  go_wp2_with (go_at_call 121; refine (dup_none w).mono ?_; rintro e w1 ⟨rfl, rfl⟩)
  go_ret
  exact ⟨rfl, rfl⟩
theorem dreach_any {w : World} {base db : Nat} {d : PD} (h : DiskAt w base db d) (i : Int) : Calls Try.prog 79 #[.pointer (some ⟨db, 0, none⟩), .int .i64 i] w fun e w' => e = .returned (.int .i64 (d.at_ i)) ∧ w = w' := by
  have HU := Lib.hid (dup_any h)
  obtain ⟨vS, vW, z, h⟩ := h
  obtain ⟨⟨c0, -, -, -⟩, -⟩ := h.blk.four
  obtain ⟨A, c, rfl, -⟩ := own_form h.sure
  unfold PD.at_
  unfold PD.up at HU
  generalize d.L.length = n at *
  clear h
  generalize d.down = b at *
  cases b with
  | true =>
    go_enter Try.func79, Try.ntmps79
    go_wp2_with (go_at_call 121; refine HU.out.mono ?_; rintro e w1 ⟨rfl, rfl⟩)
    go_ret
    exact ⟨rfl, rfl⟩
  | false =>
    by_cases h1 : i < 0
    · rw [if_neg (by simp), if_pos (.inl h1)]
      go_enter Try.func79, Try.ntmps79
      go_wp2_with (go_at_call 121; refine HU.out.mono ?_; rintro e w1 ⟨rfl, rfl⟩)
      go_ret
      exact ⟨rfl, rfl⟩
    · have h1' : decide (i < 0) = false := by simpa using h1
      by_cases h2 : (n : Int) ≤ i
      · rw [if_neg (by simp), if_pos (.inr h2)]
        have h2' : decide (i ≥ (n : Int)) = true := by simpa using h2
        go_enter Try.func79, Try.ntmps79
        go_wp2_with (go_at_call 121; refine HU.out.mono ?_; rintro e w1 ⟨rfl, rfl⟩)
        go_ret
        exact ⟨rfl, rfl⟩
      · rw [if_neg (by simp), if_neg (by omega)]
        have h2' : decide ((n : Int) ≤ i) = false := by simpa using h2
        go_enter Try.func79, Try.ntmps79
        go_wp2_with (go_at_call 121; refine HU.out.mono ?_; rintro e w1 ⟨rfl, rfl⟩)
        go_ret
        exact ⟨rfl, rfl⟩
theorem dcount_any {w : World} {base db : Nat} {d : PD} (h : DiskAt w base db d) : Calls Try.prog 80 #[.pointer (some ⟨db, 0, none⟩)] w fun e w' => e = .returned (.int .i64 d.count.2) ∧ DiskAt w' base db d.count.1 ∧ DM base w w' := by
  obtain ⟨vS, vW, z, h⟩ := h
  obtain ⟨hz, hl⟩ := h.left
  obtain ⟨⟨-, -, c2, c3⟩, -, -, f2, f3⟩ := h.blk.four
  by_cases h0 : z = 0
  · have hl0 : d.left = 0 := by omega
    have HF := Lib.hid (h.setDown true)
    subst h0
    have e : d.count = ({ d with down := true }, 20) := by unfold PD.count; rw [if_pos hl0]
    rw [e]
    clear h hz hl hl0 e
    go_enter Try.func80, Try.ntmps80
    go_wp2
    go_ret
    exact ⟨rfl, ⟨vS, vW, 0, HF.out.1⟩, HF.out.2⟩
  · by_cases h1 : 0 < z
    · have e : d.count = ({ d with left := z - 1 }, 0) := by unfold PD.count; rw [if_neg (by omega), if_pos (by omega), show d.left = z by omega]
      rw [e]
      have HF := Lib.hid (h.setLeft (z2 := z - 1) (left2 := z - 1) ⟨by omega, .inl ⟨by omega, rfl⟩⟩)
      have h0' : decide (z = 0) = false := by simpa using h0
      clear h hl e
      go_enter Try.func80, Try.ntmps80
      go_wp2
      go_ret
      exact ⟨rfl, ⟨vS, vW, z - 1, HF.out.1⟩, HF.out.2⟩
    · have e : d.count = (d, 0) := by unfold PD.count; rw [if_neg (by omega), if_neg (by omega)]
      rw [e]
      have H := Lib.hid h
      have h0' : decide (z = 0) = false := by simpa using h0
      have h1' : decide (0 < z) = false := by simpa using h1
      clear h hl e
      go_enter Try.func80, Try.ntmps80
      go_wp2
      go_ret
      exact ⟨rfl, ⟨vS, vW, z, H.out⟩, DM.refl _ _⟩
end Go.Proofs.Ytdllgmhipenidaa
end

section
/- Package disk: front, latest, Read. -/
namespace Go.Proofs.Ytdllgmhipenidaa
set_option maxRecDepth 100000
open Go.RowKit
set_option linter.unusedVariables false

theorem infoBlock2 : (Try.prog.info? 133).map (·.size) = some 64 := by kernel_rfl
theorem infoByte2 : (Try.prog.info? 5).map (·.size) = some 1 := by kernel_rfl
theorem infoWrite2 : (Try.prog.info? 135).map (·.size) = some 65 := by kernel_rfl
/-- How much of the k-th write that waited a crash leaves. -/
def frontN (pick : List UInt8) (k : Nat) : Nat := (pick.getD k 0).toNat % 65
theorem dfront_any {w : World} {A : Option Addr} {c m : Nat} {pick : List UInt8} (hs : Sl w A c (bts pick)) (hm : pick.length = m) (k : Nat) :
    Calls Try.prog 83 #[.slice A m c, .int .i64 (k : Int)] w fun e w' => e = .returned (.int .i64 (frontN pick k : Int)) ∧ w = w' := by
  by_cases hk : m ≤ k
  · have hkI : (m : Int) ≤ (k : Int) := by omega
    have h2 : decide ((k : Int) ≥ (m : Int)) = true := by simpa using hk
    have e : frontN pick k = 0 := by unfold frontN; simp [List.getD_eq_getElem?_getD, List.getElem?_eq_none (show pick.length ≤ k by omega)]
    rw [e]
    clear hs hm e
    go_enter Try.func83, Try.ntmps83
    go_wp2
    go_ret
    exact ⟨rfl, rfl⟩
  · have hlt : k < m := by omega
    have hkI : (k : Int) < (m : Int) := by omega
    have h2 : decide ((m : Int) ≤ (k : Int)) = false := by simpa using hlt
    obtain ⟨b, off, rfl, -, hc⟩ := hs.at_ (by simp; omega)
    have c1 := hc k _ (bts_get pick k (by omega))
    have e : frontN pick k = (pick[k]'(by omega)).toNat % 65 := by unfold frontN; simp [hm, hlt]
    have hx := (pick[k]'(by omega)).toNat_lt
    generalize (pick[k]'(by omega)).toNat = x at *
    rw [e]
    have hw : IntKind.i64.wrap (x : Int) = (x : Int) := by rw [IntKind.wrap_i64]; omega
    have ht : Int.tmod (x : Int) 65 = ((x % 65 : Nat) : Int) := by rw [Int.tmod_eq_emod_of_nonneg (by omega)]; omega
    have hw2 : IntKind.i64.wrap ((x % 65 : Nat) : Int) = ((x % 65 : Nat) : Int) := by rw [IntKind.wrap_i64]; omega
    clear hs hm e hc hk hx
    go_enter Try.func83, Try.ntmps83
    go_wp2
    go_ret
    exact ⟨rfl, rfl⟩

theorem lastW_append (i : Nat) : ∀ (A B : List (Nat × List UInt8)), lastW i (A ++ B) = (lastW i B).or (lastW i A)
  | [], B => by simp [lastW]
  | x :: A, B => by
    simp only [List.cons_append, lastW, lastW_append i A B]
    cases lastW i B <;> simp
theorem lastW_found {i k : Nat} {W : List (Nat × List UInt8)} (hk : k < W.length) (h1 : lastW i (W.drop (k + 1)) = none) (h2 : W[k].1 = i) : lastW i W = some W[k].2 := by
  have e := lastW_append i (W.take (k + 1)) (W.drop (k + 1))
  rw [List.take_append_drop] at e
  rw [e, h1, Option.none_or, List.take_succ_eq_append_getElem hk, lastW_snoc, if_pos (by simpa using h2)]
theorem lastW_less {i k : Nat} {W : List (Nat × List UInt8)} (hk : k < W.length) (h1 : lastW i (W.drop (k + 1)) = none) (h2 : W[k].1 ≠ i) : lastW i (W.drop k) = none := by
  rw [List.drop_eq_getElem_cons hk]
  simp [lastW, h1, h2]
theorem lastW_found2 {i k : Nat} {W : List (Nat × List UInt8)} {b : List UInt8} (hk : W[k]? = some (i, b)) (h1 : lastW i (W.drop (k + 1)) = none) : lastW i W = some b := by
  obtain ⟨hlt, he⟩ := List.getElem?_eq_some_iff.1 hk
  rw [lastW_found hlt h1 (by rw [he]), he]
theorem lastW_less2 {i q k : Nat} {W : List (Nat × List UInt8)} {b : List UInt8} (hk : W[k]? = some (q, b)) (h1 : lastW i (W.drop (k + 1)) = none) (h2 : q ≠ i) : lastW i (W.drop k) = none := by
  obtain ⟨hlt, he⟩ := List.getElem?_eq_some_iff.1 hk
  exact lastW_less hlt h1 (by rw [he]; exact h2)
/-- A block as it will be. -/
def PD.lat (d : PD) (i : Nat) : List UInt8 := (lastW i d.W).getD (d.L.getD i [])
theorem PD.Ok.lat {d : PD} (h : d.Ok) {i : Nat} (hi : i < d.L.length) : (d.lat i).length = 64 := by
  unfold PD.lat
  cases hW : lastW i d.W with
  | some b => exact (h.waits _ (lastW_mem hW)).2
  | none =>
    simp only [Option.getD_none, List.getD_eq_getElem?_getD, List.getElem?_eq_getElem hi, Option.getD_some]
    exact h.sure _ (List.getElem_mem _)
/-- Two rows of the disk, where they lie. -/
theorem DiskIn.rowS {w : World} {base db : Nat} {vS vW : Value} {z : Int} {d : PD} (h : DiskIn w base db vS vW z d) {i : Nat} (hi : i < d.L.length) :
    ∃ g cap, vS = .slice (some ⟨g, 0, none⟩) d.L.length cap ∧ w.rangeAt g (i * 64) (bts d.L[i]) ∧ w.there g (i * 64) 64 ∧ g ≠ db ∧ g < w.heap.size := by
  obtain ⟨g, cap, cur, rfl, hb, hgl, hB, h1, h2, h3, h4, h5, h6⟩ := own_place h.sure (by omega)
  refine ⟨g, cap, rfl, own_rangeAt h.sure (fun j u hu => ?_), own_there h.sure (by rw [← Nat.succ_mul]; exact Nat.mul_le_mul_right _ hi), hB.ne_ h.blk (by decide), hgl⟩
  have hj : j < 64 := by have := (List.getElem?_eq_some_iff.1 hu).1; rw [bts_length, h.ok.sure _ (List.getElem_mem _)] at this; exact this
  unfold sureC
  rw [flat_at (f := bts) (s := 64) h.ok.sureL i hi j hj]
  exact hu
theorem DiskIn.rowW {w : World} {base db : Nat} {vS vW : Value} {z : Int} {d : PD} (h : DiskIn w base db vS vW z d) {k : Nat} (hk : k < d.W.length) :
    ∃ g cap, vW = .slice (some ⟨g, 0, none⟩) d.W.length cap ∧ w.rangeAt g (k * 65) (wC d.W[k]) ∧ g ≠ db ∧ g < w.heap.size := by
  obtain ⟨g, cap, cur, rfl, hb, hgl, hB, h1, h2, h3, h4, h5, h6⟩ := own_place h.waits (by omega)
  refine ⟨g, cap, rfl, own_rangeAt h.waits (fun j u hu => ?_), hB.ne_ h.blk (by decide), hgl⟩
  have hj : j < 65 := by have := (List.getElem?_eq_some_iff.1 hu).1; rw [wC_length (h.ok.waits _ (List.getElem_mem _)).2] at this; exact this
  unfold waitsC
  rw [flat_at (f := wC) (s := 65) h.ok.waitsL k hk j hj]
  exact hu
theorem wC_parts {w : World} {g o : Nat} {x : Nat × List UInt8} (h : w.rangeAt g o (wC x)) : w.cell? ⟨g, o, none⟩ = some (.int .i64 (x.1 : Int)) ∧ w.rangeAt g (o + 1) (bts x.2) := by
  refine ⟨by simpa [wC] using h 0 _ rfl, fun j u hu => ?_⟩
  have := h (j + 1) u (by simpa [wC] using hu)
  rwa [show o + (j + 1) = o + 1 + j by omega] at this
theorem rangeAt_mods {S : Nat → Prop} {w w' : World} {g o : Nat} {cs : List Value} (h : w.rangeAt g o cs) (hm : Mods S w w') (hS : ¬ S g) : w'.rangeAt g o cs := fun j u hu => by
  have := h j u hu
  rw [World.cell?_of_block (hm.block g (World.block_lt_of_cell? w _ this) hS)]
  exact this

def zB : Array Value := Array.replicate 64 (.int .u8 0)
theorem zB_cells : (zB).size = 64 := by simp [zB]
set_option maxHeartbeats 1600000 in
theorem dlatest_any {w : World} {base db : Nat} {d : PD} (h : DiskAt w base db d) {i : Nat} (hi : i < d.L.length) :
    Calls Try.prog 123 #[.pointer (some ⟨db, 0, none⟩), .int .i64 (i : Int)] w fun e w' => e = .returned (.agg (bts (d.lat i)).toArray) ∧ Mods Nil w w' := by
  obtain ⟨vS, vW, z, h⟩ := h
  have c := h.blk.four.1
  obtain ⟨A, cp, hvW, hcp, hcm⟩ := own_form h.waits
  obtain ⟨n, hn⟩ : ∃ n, d.W.length = n := ⟨_, rfl⟩
  obtain ⟨m, hm⟩ : ∃ m, d.L.length = m := ⟨_, rfl⟩
  obtain ⟨gS, capS, hvS, rS, -, -, hgS⟩ := h.rowS hi
  obtain ⟨bS, hbS, hbl⟩ : ∃ bS, d.L[i] = bS ∧ bS.length = 64 := ⟨_, rfl, h.ok.sure _ (List.getElem_mem _)⟩
  rw [hbS] at rS
  have HBS := Lib.hid (show d.L.getD i [] = bS by rw [← hbS]; simp [hi])
  have hnm : n ≤ maxLen := by omega
  have hn63 : (n : Int) ≤ 9223372036854775807 := by unfold maxLen at hnm; omega
  have hdb := h.blk.lt
  have H := Lib.hid h
  have HN := Lib.hid hn
  have RS := Lib.hid rS
  have HI := Lib.hid hi
  obtain ⟨c0, c1, -, -⟩ := c
  rw [hvS] at c0
  rw [hvW] at c1
  rw [hn] at c1
  rw [hm] at c0
  have HVW := Lib.hid hvW
  have HVS := Lib.hid hvS
  have him : i < m := by omega
  have himI : (i : Int) < (m : Int) := by omega
  clear h hn rS hvS hvW hnm hcp hbS
  clear hi
  go_enter Try.func123, Try.ntmps123
  go_wp2_with fail
  go_loopw [5] (fun x wr => ∃ (j : Nat), j ≤ n ∧ x = .int .i64 ((j : Int) - 1) ∧ lastW i (d.W.drop j) = none ∧ Blk wr w.heap.size 133 zB ∧ Mods Nil w wr) (fun x _ => (intOf x + 1).toNat)
  case atStart => exact ⟨n, Nat.le_refl _, rfl, by rw [List.drop_eq_nil_of_le (by rw [HN.out]; omega)]; rfl, Blk.new w 133 zB, (Mods.refl _ _).alloc _⟩
  case round =>
    obtain ⟨j, hj, hx, hl, hb, hmo⟩ := hrel
    have HL := Lib.hid hl
    have HB := Lib.hid hb
    have HM := Lib.hid hmo
    have D := H.out.nil hmo
    have hc := D.blk.four.1
    obtain ⟨k0, k1, -, -⟩ := hc
    rw [HVS.out, hm] at k0
    rw [HVW.out, HN.out] at k1
    clear hl hb hmo D
    rcases Nat.eq_zero_or_pos j with rfl | hj0
    · subst hx
      have RW := Lib.hid (rangeAt_mods RS.out HM.out (fun h => h))
      have HBI : (Try.prog.info? 133).map (·.size) = some (bts bS).length := by rw [bts_length, hbl]; exact infoBlock2
      have HBJ : (Try.prog.info? 133).map (·.size) = some (bts bS).toArray.size := by simpa using HBI
      have HB2 := Lib.hid (HB.out.setRow (bts bS).toArray)
      have HM2 := Lib.hid ((HM.out).setRow (g := w.heap.size) (fun h => absurd h (Nat.lt_irrefl _)) (bts bS).toArray)
      have HLAT : Hid (d.lat i = bS) := by
        unfold PD.lat
        have := HL.out
        rw [List.drop_zero] at this
        rw [this, Option.getD_none]
        exact HBS.out
      go_wp2_with (first
        | (refine wpList_load_mid rfl 133 (.tmp 39) rfl gS (i * 64) rfl (bts bS) _ RW.out Try.underlying133 rfl HBI ?_)
        | (refine wpList_store_row rfl 133 (.tmp 4) (.tmp 40) rfl rfl w.heap.size rfl 133 zB (bts bS).toArray rfl HB.out (by simp [hbl, zB]) (all_oneCell_toArray (bts_one _)) HBJ (by simp [Value.cells]) ?_))
      refine bodyPost_ret (results_cell_row rfl _ _ w.heap.size 133 (bts bS).toArray (0, 0) _ rfl HB2.out Try.underlying133 rfl HBJ) rfl ?_
      exact ⟨by rw [HLAT.out], HM2.out⟩
    · obtain ⟨p, rfl⟩ : ∃ p, j = p + 1 := ⟨j - 1, by omega⟩
      have hx2 : _ = Value.int .i64 (p : Int) := hx.trans (by congr 1; omega)
      subst hx2
      have hpW : p < d.W.length := by rw [HN.out]; omega
      obtain ⟨gW, capW, hvW, rW, -, -⟩ := H.out.rowW hpW
      rw [HVW.out] at hvW
      injection hvW with hA1 hA2 hA3
      subst hA1; subst hA3
      obtain ⟨⟨q, b⟩, hqb⟩ : ∃ x, d.W[p] = x := ⟨_, rfl⟩
      rw [hqb] at rW
      have hbl2 : b.length = 64 := by have := (H.out.ok.waits _ (List.getElem_mem hpW)).2; rw [hqb] at this; exact this
      obtain ⟨e0, eR⟩ := wC_parts (rangeAt_mods rW HM.out (fun h => h))
      dsimp only at e0 eR
      have RW := Lib.hid eR
      have HQB := Lib.hid (show d.W[p]? = some (q, b) by rw [List.getElem?_eq_getElem hpW, hqb])
      have hpn : (p : Int) < (n : Int) := by omega
      have hp0 : (0 : Int) ≤ (p : Int) := by omega
      have hp1 : p < n := by omega
      have HXX := Lib.hid hx
      clear rW eR hqb hA2 hx hj0
      clear hpW
      by_cases hqi : q = i
      · subst hqi
        have HBI : (Try.prog.info? 133).map (·.size) = some (bts b).length := by rw [bts_length, hbl2]; exact infoBlock2
        have HBJ : (Try.prog.info? 133).map (·.size) = some (bts b).toArray.size := by simpa using HBI
        have HB2 := Lib.hid (HB.out.setRow (bts b).toArray)
        have HM2 := Lib.hid ((HM.out).setRow (g := w.heap.size) (fun h => absurd h (Nat.lt_irrefl _)) (bts b).toArray)
        have HLAT := Lib.hid (show d.lat q = b from by
          unfold PD.lat
          rw [lastW_found2 HQB.out HL.out, Option.getD_some])
        go_wp2_with (first
          | (refine wpList_load_mid rfl 133 (.tmp 32) rfl gW (p * 65 + 1) rfl (bts b) _ RW.out Try.underlying133 rfl HBI ?_)
          | (refine wpList_store_row rfl 133 (.tmp 4) (.tmp 33) rfl rfl w.heap.size rfl 133 zB (bts b).toArray rfl HB.out (by simp [hbl2, zB]) (all_oneCell_toArray (bts_one _)) HBJ (by simp [Value.cells]) ?_))
        refine bodyPost_ret (results_cell_row rfl _ _ w.heap.size 133 (bts b).toArray (0, 0) _ rfl HB2.out Try.underlying133 rfl HBJ) rfl ?_
        exact ⟨by rw [HLAT.out], HM2.out⟩
      · have hqi' : decide ((q : Int) = (i : Int)) = false := by simpa using (show ¬ ((q : Int) = (i : Int)) by omega)
        have hqi2 : decide (q = i) = false := by simpa using hqi
        have HL2 := Lib.hid (lastW_less2 (i := i) HQB.out HL.out hqi)
        go_wp2_with fail
        exact ⟨⟨p, by omega, rfl, HL2.out, HB.out, HM.out⟩, by simp [intOf]⟩

theorem dread_none (w : World) (i : Int) : Calls Try.prog 87 #[.pointer none, .int .i64 i] w fun e w' => e = .returned (.tuple #[.slice none 0 0, .int .i64 1]) ∧ w = w' := by
  go_enter Try.func87, Try.ntmps87
  go_wp2_with (go_at_call 79; refine (dreach_none w i).mono ?_; rintro e w1 ⟨rfl, rfl⟩)
  go_ret2
  exact ⟨rfl, rfl⟩
theorem dread_any {w : World} {base db : Nat} {d : PD} (h : DiskAt w base db d) (i : Int) :
    Calls Try.prog 87 #[.pointer (some ⟨db, 0, none⟩), .int .i64 i] w fun e w' => ∃ A c m, e = .returned (.tuple #[.slice A m c, .int .i64 (d.read i).2]) ∧ (d.read i).1.length = m ∧ Sl w' A c (bts (d.read i).1) ∧ Mods Nil w w' := by
  have HR := Lib.hid (dreach_any h i)
  by_cases ha : d.at_ i = 0
  · obtain ⟨-, h0, h1⟩ := PD.at_zero ha
    obtain ⟨k, rfl⟩ : ∃ k : Nat, i = (k : Int) := ⟨i.toNat, by omega⟩
    have hk : k < d.L.length := by omega
    have e : d.read (k : Int) = (d.lat k, 0) := by unfold PD.read PD.lat; rw [if_neg (by simp [ha])]; rfl
    obtain ⟨vS, vW, z, hI⟩ := id h
    have HL := Lib.hid (dlatest_any h hk)
    have hb := hI.ok.lat hk
    rw [e]
    rw [ha] at HR
    obtain ⟨b, hbb⟩ : ∃ b, d.lat k = b := ⟨_, rfl⟩
    rw [hbb] at HL hb
    simp only [hbb]
    have HBJ : (Try.prog.info? 133).map (·.size) = some (bts b).toArray.size := by simpa [hb] using infoBlock2
    clear h hI e ha h0 h1 hk hbb
    go_enter Try.func87, Try.ntmps87
    go_wp2_with (first
      | (go_at_call 79; refine HR.out.mono ?_; rintro e w1 ⟨rfl, rfl⟩)
      | (go_at_call 123; refine HL.out.mono ?_; rintro e w2 ⟨rfl, m2⟩; have M2 := Lib.hid m2; clear m2)
      | (refine wpList_store_row rfl 133 (.tmp 7) (.tmp 16) rfl rfl w2.heap.size rfl 133 zB (bts b).toArray rfl (Blk.new w2 133 zB) (by simp [hb, zB]) (all_oneCell_toArray (bts_one _)) HBJ (by simp [Value.cells]) ?_))
    go_ret2
    refine ⟨_, _, _, rfl, hb, ?_, ?_⟩
    · refine ⟨by simp [hb], by simp [maxLen], (fun h => by cases h), .inr ⟨w2.heap.size, 0, rfl, fun j u hu => ?_⟩⟩
      have hB := (Blk.new w2 133 zB).setRow (bts b).toArray
      have := hB.cell (0 + j)
      refine this.trans ?_
      simpa using hu
    · exact (M2.out.alloc _).setRow (fun hlt => absurd hlt (by have := M2.out.size; omega)) _
  · have e : d.read i = ([], d.at_ i) := by unfold PD.read; rw [if_pos ha]
    rw [e]
    have ha' : decide (d.at_ i = 0) = false := by simpa using ha
    generalize d.at_ i = x at *
    clear h e
    go_enter Try.func87, Try.ntmps87
    go_wp2_with (go_at_call 79; refine HR.out.mono ?_; rintro e w1 ⟨rfl, rfl⟩)
    go_ret2
    exact ⟨none, 0, 0, rfl, rfl, Sl.none_ _, Mods.refl _ _⟩
end Go.Proofs.Ytdllgmhipenidaa
end
