/- Package segment in memory: a segment on a disk; which blocks its calls may write. -/
import Derived.Test.YtgebcpfgihcoiaaDisk9
import Derived.Test.YtgebcpfgihcoiaaSgm1
import Derived.Test.YtgebcpfgihcoiaaGQ
namespace Go.Proofs.Ytgebcpfgihcoiaa
set_option maxRecDepth 100000
open Go.RowKit
set_option linter.unusedVariables false

/-- The blocks that a call on a segment may write. -/
def SS (base : Nat) (w : World) : Nat → Prop := fun k => base ≤ k ∧ ((∃ t cs, Blk w k t cs ∧ (t = 78 ∨ t = 103 ∨ t = 105 ∨ t = 86)) ∨ ∃ es c, w.heap[k]? = some (.map es c))
def SM (base : Nat) (w w' : World) : Prop := Mods (SS base w) w w'
section
variable {w w' w0 w1 w2 : World} {base db sb mb : Nat}
theorem SM.refl (base : Nat) (w : World) : SM base w w := Mods.refl _ _
theorem SM.trans (h : SM base w w1) (k : SM base w1 w2) : SM base w w2 := by
  refine Mods.trans2 h k (fun i hi hs => ?_)
  refine Classical.byContradiction fun hn => ?_
  have hb := h.block i hi hn
  obtain ⟨h1, h2⟩ := hs
  rcases h2 with ⟨t, cs, h2, h3⟩ | ⟨es, c, h2⟩
  · exact hn ⟨h1, .inl ⟨t, cs, hb.symm.trans h2, h3⟩⟩
  · exact hn ⟨h1, .inr ⟨es, c, hb.symm.trans h2⟩⟩
theorem SM.nil (h : Mods Nil w w') : SM base w w' := h.mono (fun _ _ h => h.elim)
theorem SM.dm (h : DM base w w') : SM base w w' := h.mono (fun k _ hs => by
  obtain ⟨h1, t, cs, h2, h3⟩ := hs
  exact ⟨h1, .inl ⟨t, cs, h2, by rcases h3 with h | h | h <;> simp [h]⟩⟩)
theorem SM.nilTrans (h : Mods Nil w0 w) (hb : w0.heap.size ≤ base) (k : SM base w w') : Mods Nil w0 w' := h.nil_trans k (fun i hi => Nat.le_trans hb hi.1)
theorem SM.size (h : SM base w w') : w.heap.size ≤ w'.heap.size := Mods.size h
theorem blk_typ {g : Nat} {t t2 : TypeId} {cs cs2 : Array Value} (h : Blk w g t cs) (h2 : Blk w g t2 cs2) : t = t2 := by
  have e := Eq.trans (Eq.symm h) h2
  injection e with e
  injection e
theorem blk_map {g : Nat} {t : TypeId} {cs : Array Value} {es : Array MapEntry} {c : Nat} (h : Blk w g t cs) (h2 : w.heap[g]? = some (.map es c)) : False := by
  have e := Eq.trans (Eq.symm h) h2
  injection e with e
  cases e
theorem Blk.sm {g : Nat} {t : TypeId} {cs : Array Value} (h : Blk w g t cs) (hm : SM base w w') (ht : t ≠ 78 ∧ t ≠ 103 ∧ t ≠ 105 ∧ t ≠ 86) : Blk w' g t cs := h.mods hm (fun hs => by
  obtain ⟨_, hs⟩ := hs
  rcases hs with ⟨t2, cs2, h2, h3⟩ | ⟨es, c, h2⟩
  · obtain rfl := blk_typ h h2
    rcases h3 with h3 | h3 | h3 | h3
    · exact ht.1 h3
    · exact ht.2.1 h3
    · exact ht.2.2.1 h3
    · exact ht.2.2.2 h3
  · exact blk_map h h2)
/-- The disk is as it was where none of its blocks was written. -/
theorem DiskAt.off {S : Nat → Prop} {d : PD} (h : DiskAt w base db d) (hm : Mods S w w') (hS : ∀ k, S k → ¬ DS base w k) : DiskAt w' base db d := by
  obtain ⟨vS, vW, z, h⟩ := h
  exact ⟨vS, vW, z, h.blk.mods hm (fun hs => hS _ hs h.ds), own_mods h.sure hm (fun k hk hs => hS k hs (own_ds h.sure (.inr (.inl rfl)) k hk)), own_mods h.waits hm (fun k hk hs => hS k hs (own_ds h.waits (.inr (.inr rfl)) k hk)), h.le, h.left, h.ok⟩
/-- Bytes in a block of bytes. -/
def Rb (w : World) (A : Option Addr) (c : Nat) (xs : List UInt8) : Prop := Sl w A c (bts xs) ∧ (xs ≠ [] → ∀ a, A = some a → ∃ cs, Blk w a.block 5 cs)
theorem Rb.off {S : Nat → Prop} {A : Option Addr} {c : Nat} {xs : List UInt8} (h : Rb w A c xs) (hm : Mods S w w') (hS : ∀ k cs, S k → ¬ Blk w k 5 cs) : Rb w' A c xs :=
  ⟨h.1.mods' hm (fun hx a ha hs => by
      obtain ⟨cs, hb⟩ := h.2 (bts_ne6.1 hx) a ha
      exact hS _ _ hs hb), fun hx a ha => by
    obtain ⟨cs, hb⟩ := h.2 hx a ha
    exact ⟨cs, hb.mods hm (fun hs => hS _ _ hs hb)⟩⟩
theorem rb_of_own {b n : Nat} {v : Value} {xs : List UInt8} (h : w.ownsRow b 5 1 v n (bts xs)) : ∃ A c, v = .slice A n c ∧ n = xs.length ∧ Rb w A c xs := by
  obtain ⟨A, c, rfl, hn, hs, ho⟩ := own_slice h
  refine ⟨A, c, rfl, by simpa using hn, hs, fun hx a ha => ?_⟩
  rcases h.2 with ⟨hv, rfl⟩ | ⟨g, cap, cur, hv, hb, hgg, h1, h2, h3, h4⟩
  · injection hv with e1 e2 e3
    subst e1
    cases ha
  · injection hv with e1 e2 e3
    subst e1
    injection ha with ha
    subst ha
    exact ⟨cur, hgg⟩
theorem dm_u8 (k : Nat) (cs : Array Value) (hs : DS base w k) : ¬ Blk w k 5 cs := fun h => by
  obtain ⟨_, t, cs2, h2, h3⟩ := hs
  obtain rfl := blk_typ h h2
  rcases h3 with h3 | h3 | h3 <;> exact absurd h3 (by decide)
theorem sm_u8 (k : Nat) (cs : Array Value) (hs : SS base w k) : ¬ Blk w k 5 cs := fun h => by
  obtain ⟨_, hs⟩ := hs
  rcases hs with ⟨t, cs2, h2, h3⟩ | ⟨es, c, h2⟩
  · obtain rfl := blk_typ h h2
    rcases h3 with h3 | h3 | h3 | h3 <;> exact absurd h3 (by decide)
  · exact blk_map h h2
/-- What the map of records holds. -/
structure RecF (w : World) (gone : Nat) (L : List (List UInt8)) (f : Int → Option Value) : Prop where
  none : ∀ x : Int, x < (gone : Int) ∨ (L.length : Int) ≤ x → f x = .none
  some : ∀ k : Nat, gone ≤ k → k < L.length → ∃ A c, f (k : Int) = some (.slice A (L.getD k []).length c) ∧ Rb w A c (L.getD k []) ∧ (L.getD k []).length ≤ 4140
theorem RecF.off {S : Nat → Prop} {gone : Nat} {L : List (List UInt8)} {f : Int → Option Value} (h : RecF w gone L f) (hm : Mods S w w') (hS : ∀ k cs, S k → ¬ Blk w k 5 cs) : RecF w' gone L f :=
  ⟨h.none, fun k h1 h2 => by
    obtain ⟨A, c, e, r, hl⟩ := h.some k h1 h2
    exact ⟨A, c, e, r.off hm hS, hl⟩⟩
def segC (db mb : Nat) (s : PSeg) : Array Value := #[.pointer (some ⟨db, 0, none⟩), .int .i64 (s.start : Int), .int .i64 (s.n : Int), .int .i64 (s.used : Int), .int .u32 (s.epoch : Int), .map (some mb), .int .i64 (s.gone : Int), .int .i64 (s.sure : Int), .int .i64 s.err]
structure PSeg.Ok (s : PSeg) : Prop where
  fit : s.start + s.n ≤ 65536
  used : s.used ≤ s.n
  len : s.L.length ≤ s.used
  sure : s.sure ≤ s.L.length
  gone : s.gone ≤ s.sure
  epoch : s.epoch < 4294967296
  err : -1000 ≤ s.err ∧ s.err ≤ 1000
structure SegIn (w : World) (base sb db mb : Nat) (s : PSeg) : Prop where
  blk : Blk w sb 86 (segC db mb s)
  map : ∃ f, IMap Try.prog 3 w mb (s.L.length - s.gone) f ∧ RecF w s.gone s.L f
  leS : base ≤ sb
  leM : base ≤ mb
  ok : s.Ok
theorem SegIn.off {S : Nat → Prop} {s : PSeg} (h : SegIn w base sb db mb s) (hm : Mods S w w') (hs : ¬ S sb) (hmb : ¬ S mb) (hS : ∀ k cs, S k → ¬ Blk w k 5 cs) : SegIn w' base sb db mb s := by
  obtain ⟨f, h1, h2⟩ := h.map
  exact ⟨h.blk.mods hm hs, ⟨f, h1.mods hm hmb, h2.off hm hS⟩, h.leS, h.leM, h.ok⟩
theorem SegIn.nil {s : PSeg} (h : SegIn w base sb db mb s) (hm : Mods Nil w w') : SegIn w' base sb db mb s := h.off hm (fun h => h) (fun h => h) (fun _ _ h => h.elim)
theorem SegIn.dm {s : PSeg} (h : SegIn w base sb db mb s) (hm : DM base w w') : SegIn w' base sb db mb s := by
  refine h.off hm (fun hs => ?_) (fun hs => ?_) dm_u8
  · obtain ⟨_, t, cs, h2, h3⟩ := hs
    obtain rfl := blk_typ h.blk h2
    rcases h3 with h3 | h3 | h3 <;> exact absurd h3 (by decide)
  · obtain ⟨_, t, cs, h2, h3⟩ := hs
    obtain ⟨f, h1, _⟩ := h.map
    obtain ⟨es, c, hb⟩ := h1.isMap
    exact blk_map h2 hb
theorem SegIn.ss {s : PSeg} (h : SegIn w base sb db mb s) : SS base w sb := ⟨h.leS, .inl ⟨_, _, h.blk, .inr (.inr (.inr rfl))⟩⟩
theorem SegIn.sm {s : PSeg} (h : SegIn w base sb db mb s) : SS base w mb := by
  obtain ⟨f, h1, _⟩ := h.map
  exact ⟨h.leM, .inr h1.isMap⟩
theorem SegIn.ne {s : PSeg} (h : SegIn w base sb db mb s) : mb ≠ sb := fun e => by
  obtain ⟨f, h1, _⟩ := h.map
  obtain ⟨es, c, hb⟩ := h1.isMap
  exact blk_map h.blk (e ▸ hb)
/-- The disk is no block of the segment's. -/
theorem SegIn.noDS {s : PSeg} (h : SegIn w base sb db mb s) : ∀ k, k = sb ∨ k = mb → ¬ DS base w k := by
  intro k hk hs
  obtain ⟨_, t, cs, h2, h3⟩ := hs
  rcases hk with rfl | rfl
  · obtain rfl := blk_typ h.blk h2
    rcases h3 with h3 | h3 | h3 <;> exact absurd h3 (by decide)
  · obtain ⟨f, h1, _⟩ := h.map
    obtain ⟨es, c, hb⟩ := h1.isMap
    exact blk_map h2 hb
theorem SegIn.noU8 {s : PSeg} (h : SegIn w base sb db mb s) : ∀ k (cs : Array Value), k = sb ∨ k = mb → ¬ Blk w k 5 cs := by
  intro k cs hk hs
  rcases hk with rfl | rfl
  · exact absurd (blk_typ h.blk hs) (by decide)
  · obtain ⟨f, h1, _⟩ := h.map
    obtain ⟨es, c, hb⟩ := h1.isMap
    exact blk_map hs hb
/-- Disk and segment. -/
def SegAt (w : World) (base sb db : Nat) (d : PD) (s : PSeg) : Prop := DiskAt w base db d ∧ ∃ mb, SegIn w base sb db mb s
theorem SegAt.nil {d : PD} {s : PSeg} (h : SegAt w base sb db d s) (hm : Mods Nil w w') : SegAt w' base sb db d s := by
  obtain ⟨h1, mb, h2⟩ := h
  exact ⟨h1.nil hm, mb, h2.nil hm⟩
/-- A cell of the segment's is another one. -/
theorem SegIn.set {s s2 : PSeg} {d : PD} (h : SegIn w base sb db mb s) (hd : DiskAt w base db d) (i : Nat) (u : Value) (hc : (segC db mb s).setIfInBounds i u = segC db mb s2) (hL : s2.L = s.L) (hg : s2.gone = s.gone) (hok : s2.Ok) :
    SegIn (w.setCell ⟨sb, i, none⟩ u) base sb db mb s2 ∧ DiskAt (w.setCell ⟨sb, i, none⟩ u) base db d ∧ SM base w (w.setCell ⟨sb, i, none⟩ u) := by
  have hm : Mods (fun k => k = sb) w (w.setCell ⟨sb, i, none⟩ u) := Mods.setCell (S := fun k => k = sb) (p := ⟨sb, i, none⟩) (Mods.refl _ _) (fun _ => rfl) _
  obtain ⟨f, h1, h2⟩ := h.map
  refine ⟨⟨by rw [← hc]; exact h.blk.set_ i u, ⟨f, by rw [hL, hg]; exact h1.mods hm h.ne, by rw [hL, hg]; exact h2.off hm (fun k cs e => h.noU8 k cs (.inl e))⟩, h.leS, h.leM, hok⟩, hd.off hm (fun k e => h.noDS k (.inl e)), hm.mono (fun k _ e => by rw [e]; exact h.ss)⟩
theorem SegIn.cells {s : PSeg} (h : SegIn w base sb db mb s) : w.cell? ⟨sb, 0, none⟩ = some (.pointer (some ⟨db, 0, none⟩)) ∧ w.cell? ⟨sb, 1, none⟩ = some (.int .i64 (s.start : Int)) ∧ w.cell? ⟨sb, 2, none⟩ = some (.int .i64 (s.n : Int)) ∧ w.cell? ⟨sb, 3, none⟩ = some (.int .i64 (s.used : Int)) ∧ w.cell? ⟨sb, 4, none⟩ = some (.int .u32 (s.epoch : Int)) ∧ w.cell? ⟨sb, 5, none⟩ = some (.map (some mb)) ∧ w.cell? ⟨sb, 6, none⟩ = some (.int .i64 (s.gone : Int)) ∧ w.cell? ⟨sb, 7, none⟩ = some (.int .i64 (s.sure : Int)) ∧ w.cell? ⟨sb, 8, none⟩ = some (.int .i64 s.err) :=
  ⟨by simpa [segC] using h.blk.cell 0, by simpa [segC] using h.blk.cell 1, by simpa [segC] using h.blk.cell 2, by simpa [segC] using h.blk.cell 3, by simpa [segC] using h.blk.cell 4, by simpa [segC] using h.blk.cell 5, by simpa [segC] using h.blk.cell 6, by simpa [segC] using h.blk.cell 7, by simpa [segC] using h.blk.cell 8⟩
end
end Go.Proofs.Ytgebcpfgihcoiaa
