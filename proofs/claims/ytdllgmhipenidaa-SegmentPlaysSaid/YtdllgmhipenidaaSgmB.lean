/- Texts laid as one: Sgm4, Sgm5, Sgm6. -/
import Derived.Test.YtdllgmhipenidaaDiskC
import Derived.Test.YtdllgmhipenidaaSgmA
import Derived.Test.YtdllgmhipenidaaGQ
import Derived.Deep.RegionHeldLaw

import Derived.Test.YtdllgmhipenidaaMemX
import Derived.Test.YtdllgmhipenidaaArrM

section
/- Package segment in memory: a segment on a disk; which blocks its calls may write. -/
namespace Go.Proofs.Ytdllgmhipenidaa
set_option maxRecDepth 100000
open Go.RowKit
set_option linter.unusedVariables false

/-- The blocks that a call on a segment may write. -/
def SS (base : Nat) (w : World) : Nat → Prop := fun k => base ≤ k ∧ ((∃ t cs, Blk w k t cs ∧ (t = 109 ∨ t = 133 ∨ t = 135 ∨ t = 116)) ∨ ∃ es c, w.heap[k]? = some (.map es c))
def SM (base : Nat) (w w' : World) : Prop := Mods (SS base w) w w'
section
variable {w w' w0 w1 w2 : World} {base db sb mb : Nat}
theorem SM.refl (base : Nat) (w : World) : SM base w w := Mods.refl _ _
theorem SM.trans (h : SM base w w1) (k : SM base w1 w2) : SM base w w2 := by
  refine Mods.trans2 h k (fun i hi hs => ?_)
  refine Classical.byContradiction fun hn => ?_
  have hb := h.block i hi hn
  obtain ⟨h1, h2⟩ := hs
  rcases h2 with ⟨t, cs, h2, h3⟩ | ⟨es, c, h2⟩
  · exact hn ⟨h1, .inl ⟨t, cs, hb.symm.trans h2, h3⟩⟩
  · exact hn ⟨h1, .inr ⟨es, c, hb.symm.trans h2⟩⟩
theorem SM.nil (h : Mods Nil w w') : SM base w w' := h.mono (fun _ _ h => h.elim)
theorem SM.dm (h : DM base w w') : SM base w w' := h.mono (fun k _ hs => by
  obtain ⟨h1, t, cs, h2, h3⟩ := hs
  exact ⟨h1, .inl ⟨t, cs, h2, by rcases h3 with h | h | h <;> simp [h]⟩⟩)
theorem SM.nilTrans (h : Mods Nil w0 w) (hb : w0.heap.size ≤ base) (k : SM base w w') : Mods Nil w0 w' := h.nil_trans k (fun i hi => Nat.le_trans hb hi.1)
theorem SM.size (h : SM base w w') : w.heap.size ≤ w'.heap.size := Mods.size h
theorem blk_typ {g : Nat} {t t2 : TypeId} {cs cs2 : Array Value} (h : Blk w g t cs) (h2 : Blk w g t2 cs2) : t = t2 := by
  have e := Eq.trans (Eq.symm h) h2
  injection e with e
  injection e
theorem blk_map {g : Nat} {t : TypeId} {cs : Array Value} {es : Array MapEntry} {c : Nat} (h : Blk w g t cs) (h2 : w.heap[g]? = some (.map es c)) : False := by
  have e := Eq.trans (Eq.symm h) h2
  injection e with e
  cases e
theorem Blk.sm {g : Nat} {t : TypeId} {cs : Array Value} (h : Blk w g t cs) (hm : SM base w w') (ht : t ≠ 109 ∧ t ≠ 133 ∧ t ≠ 135 ∧ t ≠ 116) : Blk w' g t cs := h.mods hm (fun hs => by
  obtain ⟨_, hs⟩ := hs
  rcases hs with ⟨t2, cs2, h2, h3⟩ | ⟨es, c, h2⟩
  · obtain rfl := blk_typ h h2
    rcases h3 with h3 | h3 | h3 | h3
    · exact ht.1 h3
    · exact ht.2.1 h3
    · exact ht.2.2.1 h3
    · exact ht.2.2.2 h3
  · exact blk_map h h2)
/-- The disk is as it was where none of its blocks was written. -/
theorem DiskAt.off {S : Nat → Prop} {d : PD} (h : DiskAt w base db d) (hm : Mods S w w') (hS : ∀ k, S k → ¬ DS base w k) : DiskAt w' base db d := by
  obtain ⟨vS, vW, z, h⟩ := h
  exact ⟨vS, vW, z, h.blk.mods hm (fun hs => hS _ hs h.ds), own_mods h.sure hm (fun k hk hs => hS k hs (own_ds h.sure (.inr (.inl rfl)) k hk)), own_mods h.waits hm (fun k hk hs => hS k hs (own_ds h.waits (.inr (.inr rfl)) k hk)), h.le, h.left, h.ok⟩
/-- Bytes in a block of bytes. -/
def Rb (w : World) (A : Option Addr) (c : Nat) (xs : List UInt8) : Prop := Sl w A c (bts xs) ∧ (xs ≠ [] → ∀ a, A = some a → ∃ cs, Blk w a.block 5 cs)
theorem Rb.off {S : Nat → Prop} {A : Option Addr} {c : Nat} {xs : List UInt8} (h : Rb w A c xs) (hm : Mods S w w') (hS : ∀ k cs, S k → ¬ Blk w k 5 cs) : Rb w' A c xs :=
  ⟨h.1.mods' hm (fun hx a ha hs => by
      obtain ⟨cs, hb⟩ := h.2 (bts_ne6.1 hx) a ha
      exact hS _ _ hs hb), fun hx a ha => by
    obtain ⟨cs, hb⟩ := h.2 hx a ha
    exact ⟨cs, hb.mods hm (fun hs => hS _ _ hs hb)⟩⟩
theorem rb_of_own {b n : Nat} {v : Value} {xs : List UInt8} (h : w.ownsRow b 5 1 v n (bts xs)) : ∃ A c, v = .slice A n c ∧ n = xs.length ∧ Rb w A c xs := by
  obtain ⟨A, c, rfl, hn, hs, ho⟩ := own_slice h
  refine ⟨A, c, rfl, by simpa using hn, hs, fun hx a ha => ?_⟩
  rcases h.2 with ⟨hv, rfl⟩ | ⟨g, cap, cur, hv, hb, hgg, h1, h2, h3, h4⟩
  · injection hv with e1 e2 e3
    subst e1
    cases ha
  · injection hv with e1 e2 e3
    subst e1
    injection ha with ha
    subst ha
    exact ⟨cur, hgg⟩
theorem dm_u8 (k : Nat) (cs : Array Value) (hs : DS base w k) : ¬ Blk w k 5 cs := fun h => by
  obtain ⟨_, t, cs2, h2, h3⟩ := hs
  obtain rfl := blk_typ h h2
  rcases h3 with h3 | h3 | h3 <;> exact absurd h3 (by decide)
theorem sm_u8 (k : Nat) (cs : Array Value) (hs : SS base w k) : ¬ Blk w k 5 cs := fun h => by
  obtain ⟨_, hs⟩ := hs
  rcases hs with ⟨t, cs2, h2, h3⟩ | ⟨es, c, h2⟩
  · obtain rfl := blk_typ h h2
    rcases h3 with h3 | h3 | h3 | h3 <;> exact absurd h3 (by decide)
  · exact blk_map h h2
/-- What the map of records holds. -/
structure RecF (w : World) (gone : Nat) (L : List (List UInt8)) (f : Int → Option Value) : Prop where
  none : ∀ x : Int, x < (gone : Int) ∨ (L.length : Int) ≤ x → f x = .none
  some : ∀ k : Nat, gone ≤ k → k < L.length → ∃ A c, f (k : Int) = some (.slice A (L.getD k []).length c) ∧ Rb w A c (L.getD k []) ∧ (L.getD k []).length ≤ 4140
theorem RecF.off {S : Nat → Prop} {gone : Nat} {L : List (List UInt8)} {f : Int → Option Value} (h : RecF w gone L f) (hm : Mods S w w') (hS : ∀ k cs, S k → ¬ Blk w k 5 cs) : RecF w' gone L f :=
  ⟨h.none, fun k h1 h2 => by
    obtain ⟨A, c, e, r, hl⟩ := h.some k h1 h2
    exact ⟨A, c, e, r.off hm hS, hl⟩⟩
def segC (db mb : Nat) (s : PSeg) : Array Value := #[.pointer (some ⟨db, 0, none⟩), .int .i64 (s.start : Int), .int .i64 (s.n : Int), .int .i64 (s.used : Int), .int .u32 (s.epoch : Int), .map (some mb), .int .i64 (s.gone : Int), .int .i64 (s.sure : Int), .int .i64 s.err]
structure PSeg.Ok (s : PSeg) : Prop where
  fit : s.start + s.n ≤ 65536
  used : s.used ≤ s.n
  len : s.L.length ≤ s.used
  sure : s.sure ≤ s.L.length
  gone : s.gone ≤ s.sure
  epoch : s.epoch < 4294967296
  err : -1000 ≤ s.err ∧ s.err ≤ 1000
structure SegIn (w : World) (base sb db mb : Nat) (s : PSeg) : Prop where
  blk : Blk w sb 116 (segC db mb s)
  map : ∃ f, IMap Try.prog 3 w mb (s.L.length - s.gone) f ∧ RecF w s.gone s.L f
  leS : base ≤ sb
  leM : base ≤ mb
  ok : s.Ok
theorem SegIn.off {S : Nat → Prop} {s : PSeg} (h : SegIn w base sb db mb s) (hm : Mods S w w') (hs : ¬ S sb) (hmb : ¬ S mb) (hS : ∀ k cs, S k → ¬ Blk w k 5 cs) : SegIn w' base sb db mb s := by
  obtain ⟨f, h1, h2⟩ := h.map
  exact ⟨h.blk.mods hm hs, ⟨f, h1.mods hm hmb, h2.off hm hS⟩, h.leS, h.leM, h.ok⟩
theorem SegIn.nil {s : PSeg} (h : SegIn w base sb db mb s) (hm : Mods Nil w w') : SegIn w' base sb db mb s := h.off hm (fun h => h) (fun h => h) (fun _ _ h => h.elim)
theorem SegIn.dm {s : PSeg} (h : SegIn w base sb db mb s) (hm : DM base w w') : SegIn w' base sb db mb s := by
  refine h.off hm (fun hs => ?_) (fun hs => ?_) dm_u8
  · obtain ⟨_, t, cs, h2, h3⟩ := hs
    obtain rfl := blk_typ h.blk h2
    rcases h3 with h3 | h3 | h3 <;> exact absurd h3 (by decide)
  · obtain ⟨_, t, cs, h2, h3⟩ := hs
    obtain ⟨f, h1, _⟩ := h.map
    obtain ⟨es, c, hb⟩ := h1.isMap
    exact blk_map h2 hb
theorem SegIn.ss {s : PSeg} (h : SegIn w base sb db mb s) : SS base w sb := ⟨h.leS, .inl ⟨_, _, h.blk, .inr (.inr (.inr rfl))⟩⟩
theorem SegIn.sm {s : PSeg} (h : SegIn w base sb db mb s) : SS base w mb := by
  obtain ⟨f, h1, _⟩ := h.map
  exact ⟨h.leM, .inr h1.isMap⟩
theorem SegIn.ne {s : PSeg} (h : SegIn w base sb db mb s) : mb ≠ sb := fun e => by
  obtain ⟨f, h1, _⟩ := h.map
  obtain ⟨es, c, hb⟩ := h1.isMap
  exact blk_map h.blk (e ▸ hb)
/-- The disk is no block of the segment's. -/
theorem SegIn.noDS {s : PSeg} (h : SegIn w base sb db mb s) : ∀ k, k = sb ∨ k = mb → ¬ DS base w k := by
  intro k hk hs
  obtain ⟨_, t, cs, h2, h3⟩ := hs
  rcases hk with rfl | rfl
  · obtain rfl := blk_typ h.blk h2
    rcases h3 with h3 | h3 | h3 <;> exact absurd h3 (by decide)
  · obtain ⟨f, h1, _⟩ := h.map
    obtain ⟨es, c, hb⟩ := h1.isMap
    exact blk_map h2 hb
theorem SegIn.noU8 {s : PSeg} (h : SegIn w base sb db mb s) : ∀ k (cs : Array Value), k = sb ∨ k = mb → ¬ Blk w k 5 cs := by
  intro k cs hk hs
  rcases hk with rfl | rfl
  · exact absurd (blk_typ h.blk hs) (by decide)
  · obtain ⟨f, h1, _⟩ := h.map
    obtain ⟨es, c, hb⟩ := h1.isMap
    exact blk_map hs hb
/-- Disk and segment. -/
def SegAt (w : World) (base sb db : Nat) (d : PD) (s : PSeg) : Prop := DiskAt w base db d ∧ ∃ mb, SegIn w base sb db mb s
theorem SegAt.nil {d : PD} {s : PSeg} (h : SegAt w base sb db d s) (hm : Mods Nil w w') : SegAt w' base sb db d s := by
  obtain ⟨h1, mb, h2⟩ := h
  exact ⟨h1.nil hm, mb, h2.nil hm⟩
/-- A cell of the segment's is another one. -/
theorem SegIn.set {s s2 : PSeg} {d : PD} (h : SegIn w base sb db mb s) (hd : DiskAt w base db d) (i : Nat) (u : Value) (hc : (segC db mb s).setIfInBounds i u = segC db mb s2) (hL : s2.L = s.L) (hg : s2.gone = s.gone) (hok : s2.Ok) :
    SegIn (w.setCell ⟨sb, i, none⟩ u) base sb db mb s2 ∧ DiskAt (w.setCell ⟨sb, i, none⟩ u) base db d ∧ SM base w (w.setCell ⟨sb, i, none⟩ u) := by
  have hm : Mods (fun k => k = sb) w (w.setCell ⟨sb, i, none⟩ u) := Mods.setCell (S := fun k => k = sb) (p := ⟨sb, i, none⟩) (Mods.refl _ _) (fun _ => rfl) _
  obtain ⟨f, h1, h2⟩ := h.map
  refine ⟨⟨by rw [← hc]; exact h.blk.set_ i u, ⟨f, by rw [hL, hg]; exact h1.mods hm h.ne, by rw [hL, hg]; exact h2.off hm (fun k cs e => h.noU8 k cs (.inl e))⟩, h.leS, h.leM, hok⟩, hd.off hm (fun k e => h.noDS k (.inl e)), hm.mono (fun k _ e => by rw [e]; exact h.ss)⟩
theorem SegIn.cells {s : PSeg} (h : SegIn w base sb db mb s) : w.cell? ⟨sb, 0, none⟩ = some (.pointer (some ⟨db, 0, none⟩)) ∧ w.cell? ⟨sb, 1, none⟩ = some (.int .i64 (s.start : Int)) ∧ w.cell? ⟨sb, 2, none⟩ = some (.int .i64 (s.n : Int)) ∧ w.cell? ⟨sb, 3, none⟩ = some (.int .i64 (s.used : Int)) ∧ w.cell? ⟨sb, 4, none⟩ = some (.int .u32 (s.epoch : Int)) ∧ w.cell? ⟨sb, 5, none⟩ = some (.map (some mb)) ∧ w.cell? ⟨sb, 6, none⟩ = some (.int .i64 (s.gone : Int)) ∧ w.cell? ⟨sb, 7, none⟩ = some (.int .i64 (s.sure : Int)) ∧ w.cell? ⟨sb, 8, none⟩ = some (.int .i64 s.err) :=
  ⟨by simpa [segC] using h.blk.cell 0, by simpa [segC] using h.blk.cell 1, by simpa [segC] using h.blk.cell 2, by simpa [segC] using h.blk.cell 3, by simpa [segC] using h.blk.cell 4, by simpa [segC] using h.blk.cell 5, by simpa [segC] using h.blk.cell 6, by simpa [segC] using h.blk.cell 7, by simpa [segC] using h.blk.cell 8⟩
end
end Go.Proofs.Ytdllgmhipenidaa
end

section
/- Package segment: Len, Sure, Free, keep. -/
namespace Go.Proofs.Ytdllgmhipenidaa
set_option maxRecDepth 100000
open Go.RowKit
set_option linter.unusedVariables false

theorem run_len_im {k t e : TypeId} {w : World} {b n : Nat} {f : Int → Option Value} (h : IMap Try.prog k w b n f) : ∃ es c, w.heap[b]? = some (.map es c) ∧ es.size = n := by
  obtain ⟨D, ⟨es, c, hb, F, hs, rfl⟩, h2, h3⟩ := h
  exact ⟨es, c, hb, by rw [← h2]; simp [Maps.size, length_sorted]⟩
theorem gq_len {C : World → Prop} {K : Act → Prop} {a : Act} {o : Oper} (m : Operand) (t : TypeId) (hop : o.op = Op.call { callee := Callee.builtin Builtin.len, args := #[m], argTypes := #[t] }) (k e : TypeId) (ht : Try.prog.underlying t = some (.map k e)) (b n : Nat)
    (hm : a.eval m = .map (some b)) (h : ∀ V, C V → ∃ f, IMap Try.prog k V b n f) (hk : K (a.put o.dst (.int .i64 (n : Int)))) : o.quiet Try.prog a C K :=
  gq_op (fun w hw => by
    obtain ⟨f, hf⟩ := h w hw
    simp [execOp, hop, resolve, invoke, builtin, hm, hf.len ht o.type, Result.andThen]) hk
section
variable {w : World} {base db sb mb : Nat} {s : PSeg}
theorem slen_in (h : SegIn w base sb db mb s) : Calls Try.prog 59 #[.pointer (some ⟨sb, 0, none⟩)] w fun e w' => e = .returned (.int .i64 (s.L.length : Int)) ∧ Mods Nil w w' := by
  have c5 : Hid (∀ V, Mods Nil w V → V.cell? ⟨sb, 5, none⟩ = some (.map (some mb))) := Lib.hid (fun V hm => (h.nil hm).cells.2.2.2.2.2.1)
  have c6 : Hid (∀ V, Mods Nil w V → V.cell? ⟨sb, 6, none⟩ = some (.int .i64 (s.gone : Int))) := Lib.hid (fun V hm => (h.nil hm).cells.2.2.2.2.2.2.1)
  have HL : Hid (∀ V, Mods Nil w V → ∃ f, IMap Try.prog 3 V mb (s.L.length - s.gone) f) := Lib.hid (fun V hm => by
    obtain ⟨f, h1, _⟩ := (h.nil hm).map
    exact ⟨f, h1⟩)
  have hg := h.ok.gone
  have hs := h.ok.sure
  have hl := h.ok.len
  have hu := h.ok.used
  have hf := h.ok.fit
  obtain ⟨n, hn⟩ : ∃ n, s.L.length = n := ⟨_, rfl⟩
  obtain ⟨m, hm⟩ : ∃ m, s.L.length - s.gone = m := ⟨_, rfl⟩
  obtain ⟨g, hgg⟩ : ∃ g, s.gone = g := ⟨_, rfl⟩
  have hw : IntKind.i64.wrap ((g : Int) + (m : Int)) = (n : Int) := by rw [IntKind.wrap_i64]; omega
  rw [hm] at HL
  rw [hgg] at c6
  rw [hn]
  clear h hg hs hl hu hf hn hm hgg
  go_enter Try.func59, Try.ntmps59
  go_wp2_with fail
  have d5 := c5.out
  have d6 := c6.out
  refine gq_region (by kernel_rfl) (by kernel_rfl) ?_
  repeat (first
    | go_big_quiet_skip
    | (go_big_quiet_want; first
        | (refine gq_len _ 114 rfl 3 42 Try.underlying114 mb m rfl HL.out ?_; go_big_quiet_on)
        | (refine gq_op (v := ?_) ?_ ?_; rotate_left; (focus (intro V hV; go_simp; try with_reducible rfl)); go_big_quiet_on))
      simp only [Act.put, List.setIfInBounds_toArray, List.set_cons_zero, List.set_cons_succ])
  refine wpQuiet_nil ?_
  intro V hV
  clear d5 d6
  go_wp2_with fail
  go_ret
  exact ⟨rfl, hV⟩
theorem sfree_in (h : SegIn w base sb db mb s) : Calls Try.prog 61 #[.pointer (some ⟨sb, 0, none⟩)] w fun e w' => e = .returned (.int .i64 (s.n - s.used : Nat)) ∧ Mods Nil w w' := by
  have c2 := h.cells.2.2.1
  have c3 := h.cells.2.2.2.1
  have hu := h.ok.used
  have hf := h.ok.fit
  obtain ⟨n, hn⟩ : ∃ n, s.n = n := ⟨_, rfl⟩
  obtain ⟨m, hm⟩ : ∃ m, s.n - s.used = m := ⟨_, rfl⟩
  obtain ⟨g, hgg⟩ : ∃ g, s.used = g := ⟨_, rfl⟩
  have hw : IntKind.i64.wrap ((n : Int) - (g : Int)) = (m : Int) := by rw [IntKind.wrap_i64]; omega
  rw [hn] at c2
  rw [hgg] at c3
  rw [hm]
  clear h hu hf hn hm hgg
  go_enter Try.func61, Try.ntmps61
  go_wp2_with fail
  go_quiet (fail)
  all_goals
    go_wp2_with fail
    go_ret
    exact ⟨rfl, (Mods.refl Nil w).drewN nq⟩
theorem ssure_in (h : SegIn w base sb db mb s) : Calls Try.prog 60 #[.pointer (some ⟨sb, 0, none⟩)] w fun e w' => e = .returned (.int .i64 (s.sure : Int)) ∧ Mods Nil w w' := by
  have c7 := h.cells.2.2.2.2.2.2.2.1
  clear h
  go_enter Try.func60, Try.ntmps60
  go_wp2_with fail
  go_ret
  exact ⟨rfl, Mods.refl _ _⟩
/-- One record more. -/
def PSeg.add (s : PSeg) (b : List UInt8) (m : Nat) : PSeg := { s with L := s.L ++ [b], used := s.used + m }
theorem PSeg.Ok.add {s : PSeg} (h : s.Ok) {b : List UInt8} {m : Nat} (hm : 1 ≤ m) (hf : s.used + m ≤ s.n) : (s.add b m).Ok :=
  ⟨h.fit, hf, by have := h.len; simp [PSeg.add]; omega, by have := h.sure; simp [PSeg.add]; omega, h.gone, h.epoch, h.err⟩
theorem SegIn.keep {w2 : World} {d : PD} {f : Int → Option Value} (h : SegIn w base sb db mb s) (hd : DiskAt w base db d) {A : Option Addr} {c : Nat} {b : List UInt8} (hb : Rb w A c b) (hb4 : b.length ≤ 4140) {m : Nat} (hm : 1 ≤ m) (hf : s.used + m ≤ s.n)
    (hi : IMap Try.prog 3 w2 mb (s.L.length - s.gone + 1) (upd f (s.L.length : Int) (some (.slice A b.length c)))) (hr : RecF w s.gone s.L f) (h2 : Mods (fun j => j = mb) w w2) :
    SegIn (w2.setCell ⟨sb, 3, none⟩ (.int .i64 ((s.used + m : Nat) : Int))) base sb db mb (s.add b m) ∧ DiskAt (w2.setCell ⟨sb, 3, none⟩ (.int .i64 ((s.used + m : Nat) : Int))) base db d ∧ Mods (fun k => k = sb ∨ k = mb) w (w2.setCell ⟨sb, 3, none⟩ (.int .i64 ((s.used + m : Nat) : Int))) := by
  have hm2 : Mods (fun k => k = sb ∨ k = mb) w (w2.setCell ⟨sb, 3, none⟩ (.int .i64 ((s.used + m : Nat) : Int))) :=
    Mods.setCell (S := fun k => k = sb ∨ k = mb) (p := ⟨sb, 3, none⟩) (h2.mono (fun _ _ e => .inr e)) (fun _ => .inl rfl) _
  have hms : Mods (fun k => k = sb) w2 (w2.setCell ⟨sb, 3, none⟩ (.int .i64 ((s.used + m : Nat) : Int))) := Mods.setCell (S := fun k => k = sb) (p := ⟨sb, 3, none⟩) (Mods.refl _ _) (fun _ => rfl) _
  have hg := h.ok.gone
  have hsr := h.ok.sure
  refine ⟨⟨?_, ⟨upd f (s.L.length : Int) (some (.slice A b.length c)), ?_, ?_⟩, h.leS, h.leM, h.ok.add hm hf⟩, hd.off hm2 h.noDS, hm2⟩
  · have := (h.blk.mods h2 (fun e => h.ne e.symm)).set_ 3 (.int .i64 ((s.used + m : Nat) : Int))
    simpa [segC, PSeg.add] using this
  · have := hi.mods hms h.ne
    have e : (s.add b m).L.length - (s.add b m).gone = s.L.length - s.gone + 1 := by simp [PSeg.add]; omega
    rw [e]
    exact this
  · have hr2 := hr.off hm2 h.noU8
    have hb2 := hb.off hm2 h.noU8
    refine ⟨fun x hx => ?_, fun k h1 hk => ?_⟩
    · have hx' : x < (s.gone : Int) ∨ ((s.L.length + 1 : Nat) : Int) ≤ x := by simpa [PSeg.add] using hx
      unfold upd
      rw [if_neg (by omega)]
      exact hr2.none x (by omega)
    · have hk' : k < s.L.length + 1 := by simpa [PSeg.add] using hk
      unfold upd
      show ∃ A c, _ = some (Value.slice A (((s.L ++ [b]).getD k []).length) c) ∧ Rb _ A c ((s.L ++ [b]).getD k []) ∧ ((s.L ++ [b]).getD k []).length ≤ 4140
      by_cases e : k = s.L.length
      · subst e
        rw [if_pos rfl]
        have : (s.L ++ [b]).getD s.L.length [] = b := by simp
        rw [this]
        exact ⟨A, c, rfl, hb2, hb4⟩
      · rw [if_neg (by omega)]
        have : (s.L ++ [b]).getD k [] = s.L.getD k [] := by simp [List.getD_eq_getElem?_getD, List.getElem?_append_left (show k < s.L.length by omega)]
        rw [this]
        exact hr2.some k h1 (by omega)
set_option maxHeartbeats 3200000 in
theorem skeep_fine {d : PD} (h : SegIn w base sb db mb s) (hd : DiskAt w base db d) {A : Option Addr} {c q : Nat} {b : List UInt8} (hb : Rb w A c b) (hb4 : b.length ≤ 4140) (hq : b.length = q) {m : Nat} (hm : 1 ≤ m) (hf : s.used + m ≤ s.n) :
    Calls Try.prog 71 #[.pointer (some ⟨sb, 0, none⟩), .slice A q c, .int .i64 (m : Int)] w fun e w' => e = .returned (.tuple #[]) ∧ SegIn w' base sb db mb (s.add b m) ∧ DiskAt w' base db d ∧ Mods (fun k => k = sb ∨ k = mb) w w' := by
  subst hq
  have HL := Lib.hid (slen_in (h.nil (Mods.refl Nil w).drew))
  have hfit := h.ok.fit
  have hlen := h.ok.len
  have hsr := h.ok.sure
  have hgn := h.ok.gone
  have c5 := h.cells.2.2.2.2.2.1
  have hne := h.ne
  have HK : Hid (∀ w2, Mods Nil w w2 → ∃ w3, (Instr.mapUpdate 114 (.map (some mb)) (.int .i64 (s.L.length : Int)) (.slice A b.length c)).run Try.prog w2 = .ok () w3 ∧ w3.cell? ⟨sb, 5, none⟩ = some (.map (some mb)) ∧ w3.cell? ⟨sb, 3, none⟩ = some (.int .i64 (s.used : Int)) ∧ w3.frozen? ⟨sb, 3, none⟩ = false ∧
      (SegIn (w3.setCell ⟨sb, 3, none⟩ (.int .i64 ((s.used + m : Nat) : Int))) base sb db mb (s.add b m) ∧ DiskAt (w3.setCell ⟨sb, 3, none⟩ (.int .i64 ((s.used + m : Nat) : Int))) base db d ∧ Mods (fun k => k = sb ∨ k = mb) w (w3.setCell ⟨sb, 3, none⟩ (.int .i64 ((s.used + m : Nat) : Int))))) := Lib.hid (fun w2 hm2 => by
    have h2 := h.nil hm2
    have hd2 := hd.nil hm2
    have hb2 := hb.off hm2 (fun _ _ h => h.elim)
    obtain ⟨f, hi, hr⟩ := h2.map
    obtain ⟨w3, r3, i3, m3⟩ := hi.put (t := 114) Try.underlying3 Try.underlying114 (in64_of (x := (s.L.length : Int)) (by omega) (by omega)) (hr.none _ (.inr (by omega))) (by unfold maxLen; omega) (.slice A b.length c)
    have hB := h2.blk.mods m3 (fun e => hne e.symm)
    have k := h2.keep hd2 hb2 hb4 hm hf i3 hr m3
    refine ⟨w3, r3, by simpa [segC] using hB.cell 5, by simpa [segC] using hB.cell 3, hB.frozen 3, k.1, k.2.1, (hm2.mono (fun _ _ h => h.elim)).trans k.2.2⟩)
  have hadd : (s.used : Int) + (m : Int) = ((s.used + m : Nat) : Int) := by omega
  have hwr : IntKind.i64.wrap ((s.used + m : Nat) : Int) = ((s.used + m : Nat) : Int) := by rw [IntKind.wrap_i64]; have := h.ok.used; omega
  obtain ⟨n, hn⟩ : ∃ n, s.L.length = n := ⟨_, rfl⟩
  obtain ⟨z, hz⟩ : ∃ z : Int, ((s.used + m : Nat) : Int) = z := ⟨_, rfl⟩
  obtain ⟨y, hy⟩ : ∃ y : Int, (s.used : Int) = y := ⟨_, rfl⟩
  rw [hz] at hadd hwr HK
  rw [hy] at hadd HK
  rw [hn] at HL HK
  obtain ⟨q, hq⟩ : ∃ q, b.length = q := ⟨_, rfl⟩
  rw [hq] at HK ⊢
  clear h hd hb hb4 hfit hlen hsr hgn hn hz hy hq hf
  go_enter Try.func71, Try.ntmps71
  go_wp2_with fail
  go_region_held (fun V => V.cell? ⟨sb, 5, none⟩ = some (.map (some mb))) (first | assumption) (first
    | (go_at_call 59; refine HL.out.mono ?_; rintro e w2 ⟨rfl, m2⟩; obtain ⟨w3, r3, k5, k3, f3, k⟩ := HK.out w2 m2.of_drew; have KK := Lib.hid k; have KR := Lib.hid r3; have k0 := (World.cell?_of_block (m2.block sb (World.block_lt_of_cell? w _ c5) (fun h => h))).trans c5; clear k))
  all_goals
    go_wp2_with fail
    exact bodyPost_end (results_none rfl _ _ _) rfl ⟨rfl, KK.out⟩
theorem skeep_in {d : PD} (h : SegIn w base sb db mb s) (hd : DiskAt w base db d) {A : Option Addr} {c q : Nat} {b : List UInt8} (hb : Rb w A c b) (hb4 : b.length ≤ 4140) (hq : b.length = q) {m : Nat} (hm : 1 ≤ m) (hf : s.used + m ≤ s.n) :
    Calls Try.prog 71 #[.pointer (some ⟨sb, 0, none⟩), .slice A q c, .int .i64 (m : Int)] w fun e w' => e = .returned (.tuple #[]) ∧ SegIn w' base sb db mb (s.add b m) ∧ DiskAt w' base db d ∧ SM base w w' :=
  (skeep_fine h hd hb hb4 hq hm hf).mono fun e w' ⟨h1, h2, h3, h4⟩ => ⟨h1, h2, h3, h4.mono (fun k _ e => by rcases e with rfl | rfl; exact h.ss; exact h.sm)⟩
end
end Go.Proofs.Ytdllgmhipenidaa
end

section
/- Package segment: lay. -/
namespace Go.Proofs.Ytdllgmhipenidaa
set_option maxRecDepth 100000
open Go.RowKit
set_option linter.unusedVariables false

theorem infoU8s : (Try.prog.info? 5).map (·.size) = some 1 := by kernel_rfl
/-- A cut of bytes that may be read. -/
theorem cut_run {w : World} {A : Option Addr} {n c lo hi : Nat} {r : List UInt8} (hs : Sl w A c (bts r)) (hn : r.length = n) (h1 : lo ≤ hi) (h2 : hi ≤ n) : ∃ A' c', (∀ W, (Instr.slice 42 (.slice A n c) (some (.int .i64 (lo : Int))) (some (.int .i64 (hi : Int))) none).run Try.prog W = .ok (.slice A' (hi - lo) c') W) ∧ Sl w A' c' (bts ((r.drop lo).take (hi - lo))) := by
  have hle := hs.le
  rw [bts_length, hn] at hle
  have hcut := (hs.cut (k := lo) (by rw [bts_length]; omega)).take (hi - lo)
  rw [bts_drop, bts_take] at hcut
  cases A with
  | some a =>
    refine ⟨_, _, fun W => ?_, hcut⟩
    rw [run_slice_lh (P := Try.prog) W _ a n c (by exact Try.underlying42) .i64 .i64 (lo : Int) (hi : Int) (by omega) (by omega) (by omega)]
    have hsz : (sizeOf (Try.prog.elem 42)).run Try.prog W = .ok 1 W := by rfl
    rw [hsz]
    simp only [Result.andThen, sliced]
    rw [show (lo : Int).toNat = lo by omega, show (hi : Int).toNat = hi by omega]
    simp
  | none =>
    obtain ⟨rfl, hr⟩ := hs.of_nil
    obtain rfl : r = [] := by cases r; rfl; simp [bts] at hr
    simp at hn
    subst hn
    obtain rfl : hi = 0 := by omega
    obtain rfl : lo = 0 := by omega
    exact ⟨none, 0, fun W => by rfl, by simpa using hs⟩
/-- A byte is stored into a block of bytes. -/
theorem gw_store_u8 {P : Program} {ops : Array Oper} {rest : List Oper} {o : Oper} {a : Act} {w : World} {Q : Exit → Act → World → Prop} (hg : o.guard = none) (ty : TypeId) (x y : Operand) (ho : o.op = .store ty x y) (hdst : o.dst = none) (hinfo : (P.info? ty).map (·.size) = some 1)
    (g i : Nat) (hx : a.eval x = .pointer (some ⟨g, i, none⟩)) (u : UInt8) (hy : a.eval y = .int .u8 (u.toNat : Int)) (t : TypeId) (l : List UInt8) (hB : Blk w g t (bts l).toArray) (hi : i < l.length)
    (h : ∀ W, Blk W g t (bts (l.set i u)).toArray → Mods (fun j => j = g) w W → wpList P ops Q rest a W) : wpList P ops Q (o :: rest) a w := by
  have hc : w.cell? ⟨g, i, none⟩ = some (.int .u8 (l[i].toNat : Int)) := by
    rw [hB.cell i]
    simpa using bts_get l i hi
  have hf := hB.frozen i
  cases hq : P.info? ty with
  | none => simp [hq] at hinfo
  | some ie =>
    have hsz : ie.size = 1 := by simpa [hq] using hinfo
    refine wpList_plain hg fun K hK => ?_
    have hK' := hK _ _ (h _ (hB.bset i u) (Mods.setCell (S := fun j => j = g) (p := ⟨g, i, none⟩) (Mods.refl _ _) (fun _ => rfl) _))
    unfold Oper.wp execOp
    have hst : (storeVar ty ⟨g, i, none⟩ (.int .u8 (u.toNat : Int))).run P w = .ok () (w.setCell ⟨g, i, none⟩ (.int .u8 (u.toNat : Int))) := by
      simp [storeVar, Sem.run_bind, sizeOf, typeInfo, hq, hsz, Value.cells, go_sem, hc, hf]
    simp only [ho, hx, hy, Instr.storeAt, Instr.sureAddr, Sem.run_bind, Sem.run_pure, Result.andThen_ok, hst]
    simpa [Oper.upon, hdst, Act.put] using hK'

theorem four_set4 (x : Nat) : ∀ (l : List UInt8), l.length = 64 → ∀ k, k ≤ 60 → set4 l k x = l.take k ++ fourOf x ++ l.drop (k + 4) := by
  intro l hl k hk
  apply List.ext_getElem?
  intro i
  unfold set4 fourOf
  by_cases h1 : i < k
  · rw [List.getElem?_append_left (by simp; omega), List.getElem?_append_left (by simp; omega)]
    simp [h1, show ¬ k = i by omega, show ¬ k + 1 = i by omega, show ¬ k + 2 = i by omega, show ¬ k + 3 = i by omega]
  · by_cases h2 : i < k + 4
    · rw [List.getElem?_append_left (by simp; omega), List.getElem?_append_right (by simp; omega)]
      have : (List.take k l).length = k := by simp; omega
      rw [this]
      obtain ⟨j, rfl⟩ : ∃ j, i = k + j := ⟨i - k, by omega⟩
      have hj : j < 4 := by omega
      match j, hj with
      | 0, _ => simp [show k < l.length by omega]
      | 1, _ => simp [show k + 1 < l.length by omega]
      | 2, _ => simp [show k + 2 < l.length by omega]
      | 3, _ => simp [show k + 3 < l.length by omega]
    · rw [List.getElem?_append_right (by simp; omega)]
      simp only [List.length_append, List.length_take, List.length_cons, List.length_nil]
      rw [List.getElem?_drop, show k + 4 + (i - (min k l.length + (0 + 1 + 1 + 1 + 1))) = i by omega]
      simp [show ¬ k = i by omega, show ¬ k + 1 = i by omega, show ¬ k + 2 = i by omega, show ¬ k + 3 = i by omega]
/-- The block as it is laid, step by step. -/
def l1P (e : Nat) : List UInt8 := set4 zeros64 0 e
def l2P (e pl : Nat) : List UInt8 := set4 (l1P e) 4 (pl + 1)
def l5P (e pl k m q : Nat) : List UInt8 := (((l2P e pl).set 8 (UInt8.ofNat k)).set 9 (UInt8.ofNat m)).set 10 (UInt8.ofNat q)
def l6P (e pl k m : Nat) (p : List UInt8) : List UInt8 := (l5P e pl k m p.length).take 11 ++ p ++ (l5P e pl k m p.length).drop (11 + p.length)
theorem l5P_eq (e pl k m q : Nat) : l5P e pl k m q = headP e pl k m q ++ List.replicate 53 0 := by
  unfold l5P l2P l1P set4 headP fourOf zeros64
  rfl
theorem l5P_length (e pl k m q : Nat) : (l5P e pl k m q).length = 64 := by
  rw [l5P_eq]
  simp [headP, fourOf]
theorem l6P_eq {e pl k m : Nat} {p : List UInt8} (hp : p.length ≤ 45) : l6P e pl k m p = bodyP e pl k m p ++ List.replicate 8 0 := by
  unfold l6P
  rw [l5P_eq]
  have hh : (headP e pl k m p.length).length = 11 := by simp [headP, fourOf]
  rw [List.take_append_of_le_length (by omega), List.take_of_length_le (by omega), ← hh, List.drop_length_add_append]
  unfold bodyP
  rw [List.drop_replicate, List.append_assoc, List.append_assoc, List.append_assoc, List.replicate_append_replicate, show 53 - p.length = 45 - p.length + 8 by omega]
theorem l6P_take {e pl k m : Nat} {p : List UInt8} (hp : p.length ≤ 45) : (l6P e pl k m p).take 56 = bodyP e pl k m p := by
  rw [l6P_eq hp, List.take_left' (bodyP_length hp)]
theorem l6P_length {e pl k m : Nat} {p : List UInt8} (hp : p.length ≤ 45) : (l6P e pl k m p).length = 64 := by
  rw [l6P_eq hp]
  simp [bodyP_length hp]
theorem l7P_eq {e pl k m : Nat} {p : List UInt8} (hp : p.length ≤ 45) : set4 (sealedOf (bodyP e pl k m p) ++ (l6P e pl k m p).drop 60) 60 e = blockP e pl k m p := by
  have hs : (sealedOf (bodyP e pl k m p)).length = 60 := by rw [sealedOf_length, bodyP_length hp]
  have hd : (l6P e pl k m p).drop 60 = List.replicate 4 0 := by
    rw [l6P_eq hp, List.drop_append, List.drop_eq_nil_of_le (by rw [bodyP_length hp]; omega), bodyP_length hp]
    rfl
  rw [hd, four_set4 e _ (by simp [hs]) 60 (by omega), List.take_left' hs, List.drop_eq_nil_of_le (by simp [hs])]
  unfold blockP
  simp
theorem wp_copy_mk {P : Program} {o : Oper} {a : Act} {w : World} {K : Act → World → Prop} {Q : Exit → Act → World → Prop} (d s : Operand) (dT sT : TypeId) (hop : o.op = Op.call { callee := Callee.builtin Builtin.copy, args := #[d, s], argTypes := #[dT, sT] })
    (elem : TypeId) (hu : P.underlying dT = some (.slice elem)) (hs : (P.info? elem).map (·.size) = some 1) (g off m dCap : Nat) (t : TypeId) (cur new : Array Value) (hd : a.eval d = .slice (some ⟨g, off, none⟩) m dCap) (hB : Blk w g t cur)
    (A : Option Addr) (n c : Nat) (xs : List Value) (hx : a.eval s = .slice A n c) (hsl : Sl w A c xs) (hn : xs.length = n) (h1 : ∀ u ∈ xs, u.oneCell' = true) (hnm : n ≤ m) (hfit : off + n ≤ cur.size) (hnew : (cur.toList.take off ++ xs ++ cur.toList.drop (off + n)).toArray = new)
    (hK : ∀ W, Blk W g t new → Mods (fun i => i = g) w W → K (a.put o.dst (goInt n)) W) : o.wp P a w K Q :=
  wp_copy_sl d s dT sT hop elem hu hs g off m dCap t cur hd hB A n c xs hx hsl hn h1 hnm hfit (hK _ (by rw [hnew]; exact hB.setRow new) (Mods.setRow (S := fun i => i = g) (Mods.refl _ _) (fun _ => rfl) _))
theorem run_alloc_sb (w : World) : (Instr.alloc 124 true (.tuple #[])).run Try.prog w = .ok (.pointer (some ⟨w.heap.size, 0, none⟩)) (w.alloc (.cells zB 124)) := by rfl
theorem gw_alloc_sb {ops : Array Oper} {rest : List Oper} {o : Oper} {a : Act} {w : World} {Q : Exit → Act → World → Prop} (hg : o.guard = none) (ho : o.op = .alloc 124)
    (h : ∀ W, Blk W w.heap.size 124 (bts zeros64).toArray → Mods Nil w W → W.heap.size = w.heap.size + 1 → wpList Try.prog ops Q rest (a.put o.dst (.pointer (some ⟨w.heap.size, 0, none⟩))) W) : wpList Try.prog ops Q (o :: rest) a w := by
  refine wpList_plain hg fun K hK => ?_
  have z0 : zB = (bts zeros64).toArray := by rfl
  have hB := Blk.new w 124 zB
  rw [z0] at hB
  have := hK _ _ (h _ hB ((Mods.refl Nil w).alloc _) (by simp))
  unfold Oper.wp execOp
  simp only [ho, run_alloc_sb, Sem.run_bind, Sem.run_pure, Result.andThen_ok]
  rw [z0]
  exact this
theorem blk_range {w : World} {g : Nat} {t : TypeId} {cs : List Value} (h : Blk w g t cs.toArray) : w.rangeAt g 0 cs := fun j u hu => by
  rw [Nat.zero_add, h.cell j]
  simpa using hu
theorem blk_sl {w : World} {g : Nat} {t : TypeId} {l : List UInt8} (h : Blk w g t (bts l).toArray) (hl : l.length = 64) (m : Nat) : Sl w (some ⟨g, 0, none⟩) 64 (bts (l.take m)) := by
  refine ⟨by simp; omega, by unfold maxLen; omega, (fun h => by cases h), .inr ⟨g, 0, rfl, fun j u hu => blk_range h j u ?_⟩⟩
  rw [← bts_take, List.getElem?_take] at hu
  split at hu
  · exact hu
  · cases hu
end Go.Proofs.Ytdllgmhipenidaa
end
