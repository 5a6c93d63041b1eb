/- Texts laid as one: Ldr1, Ldr3, Ldr2, Ldr4, Ldr5. -/
import Derived.Test.YtpabbhhaagfoeaaLdr0
import Derived.Test.YtpabbhhaagfoeaaAcc1
import Derived.Test.YtpabbhhaagfoeaaKMapD
import Derived.Test.YtpabbhhaagfoeaaClone
import Derived.Test.YtpabbhhaagfoeaaKT
import Derived.Test.YtpabbhhaagfoeaaGQ
import Derived.Lib.BitFns
import Derived.Test.YtpabbhhaagfoeaaAccM1
import Derived.Deep.CutRange
import Derived.Deep.RegionHeld

section
/- Package leader: where a leader lies: its own block, its maps by slots, bytes of its own. -/
namespace Go.Proofs.Ytpabbhhaagfoeaa
set_option maxRecDepth 100000
open Go.RowKit Go.Maps
set_option linter.unusedVariables false
set_option linter.unusedSimpArgs false

/-- What a call of a leader may write: blocks behind W0 that aren't X's. -/
def LDM (W0 : World) (X : Nat → Prop) (k : Nat) : Prop := W0.heap.size ≤ k ∧ ¬ X k
/-- X, and what is new. -/
def LDN (X : Nat → Prop) (W W' : World) (k : Nat) : Prop := X k ∨ (W.heap.size ≤ k ∧ k < W'.heap.size)
/-- What is new. -/
def NEW (W W' : World) (k : Nat) : Prop := W.heap.size ≤ k ∧ k < W'.heap.size
/-- Bytes of its own: blocks behind W0, none of X's. -/
def LF (W0 W : World) (X : Nat → Prop) (k : Nat) : Prop := W0.heap.size ≤ k ∧ ¬ X k ∧ ∃ cs, Blk W k 5 cs
/-- A known vote as the map has it. -/
structure VoAt (W0 W : World) (X : Nat → Prop) (o : Option PVt) (u : Option Value) : Prop where
  none_ : o = none → u = none
  some_ : ∀ v, o = some v → ∃ A c, u = some (.agg #[.int .u64 (v.slot : Int), .int .u64 (v.bal : Int), .slice A v.val.length c]) ∧ Sl W A c (bts v.val) ∧ (bts v.val ≠ [] → ∀ a, A = some a → LF W0 W X a.block) ∧ v.val.length ≤ 100000
/-- Bits that are nodes. -/
def isMask (B : Nat) (L : List Nat) : Prop := B < 4294967296 ∧ ∀ j, B.testBit j = decide (j ∈ L)
/-- A proposal as the map has it. -/
structure OpAt (W0 W : World) (X : Nat → Prop) (o : Option POp) (u : Option Value) : Prop where
  none_ : o = none → u = none
  some_ : ∀ x, o = some x → ∃ A c B, u = some (.agg #[.int .u64 (x.v.slot : Int), .int .u64 (x.v.bal : Int), .slice A x.v.val.length c, .int .u32 ((B : Nat) : Int)]) ∧ Sl W A c (bts x.v.val) ∧ (bts x.v.val ≠ [] → ∀ a, A = some a → LF W0 W X a.block) ∧ x.v.val.length ≤ 100000 ∧ isMask B x.who
/-- What is open of a slot. -/
def lookO (l : List POp) (s : Nat) : Option POp := l.find? (fun x => decide (x.v.slot = s))
theorem lookO_some {l : List POp} {s : Nat} {x : POp} (h : lookO l s = some x) : x ∈ l ∧ x.v.slot = s := by
  unfold lookO at h
  exact ⟨List.mem_of_find?_eq_some h, by simpa using List.find?_some h⟩
theorem lookO_none {l : List POp} {s : Nat} : lookO l s = none ↔ ∀ x ∈ l, x.v.slot ≠ s := by
  unfold lookO
  rw [List.find?_eq_none]
  simp
/-- The known votes, from a slot on. -/
def KnM (W0 W : World) (X : Nat → Prop) (lo : Nat) (L : List PVt) (T kb : Nat) : Prop :=
  ∃ n f, KMap Try.prog 28 W kb n f ∧ n ≤ T ∧ W0.heap.size ≤ kb ∧ ¬ X kb ∧ ∀ s : Nat, s < 18446744073709551616 → VoAt W0 W X (if lo ≤ s then lookV L s else none) (f (.int .u64 (s : Int)))
/-- What is open. -/
def OpM (W0 W : World) (X : Nat → Prop) (L : List POp) (T ob : Nat) : Prop :=
  ∃ n f, KMap Try.prog 28 W ob n f ∧ n ≤ T ∧ W0.heap.size ≤ ob ∧ ¬ X ob ∧ ∀ s : Nat, s < 18446744073709551616 → OpAt W0 W X (lookO L s) (f (.int .u64 (s : Int)))
/-- What its cells say. -/
def LdB (W0 W : World) (X : Nat → Prop) (l : PLd) (T nx B : Nat) (kv ov : Value) : Prop :=
  (l.stage = 0 ∧ kv = .map none ∧ ov = .map none) ∨
  (l.stage = 1 ∧ ∃ kb ob, kv = .map (some kb) ∧ ov = .map (some ob) ∧ kb ≠ ob ∧ nx = l.first ∧ isMask B l.prom ∧ KnM W0 W X l.first l.known T kb ∧ OpM W0 W X [] T ob) ∨
  (l.stage = 2 ∧ ∃ ob, kv = .map none ∧ ov = .map (some ob) ∧ nx = l.next ∧ OpM W0 W X l.opn T ob)
/-- A leader's cells. -/
@[reducible] def ldCs (l : PLd) (nx B : Nat) (kv ov : Value) : Array Value := #[.int .i64 (l.many : Int), .int .u64 (l.bal : Int), .int .i64 (l.stage : Int), .int .u64 (nx : Int), .int .u32 (B : Int), kv, ov]
structure LdS (W0 W : World) (X : Nat → Prop) (b : Nat) (l : PLd) (T : Nat) : Prop where
  m : Mods Nil W0 W
  good : l.good
  old : ∀ k, X k → k < W.heap.size
  lo : W0.heap.size ≤ b
  nx : ¬ X b
  blk : ∃ nx B kv ov, Blk W b 90 (ldCs l nx B kv ov) ∧ LdB W0 W X l T nx B kv ov
/-- From one world to another: what is the leader's own stays, and is none of Y's. -/
structure LMv (W0 W W1 W' : World) (X Y S : Nat → Prop) : Prop where
  m : Mods S W W'
  le : W1.heap.size ≤ W0.heap.size
  off : ∀ k, W0.heap.size ≤ k → ¬ X k → k < W.heap.size → ¬ S k ∧ ¬ Y k
/-- The same of its bytes alone. -/
structure LMb (W0 W W1 W' : World) (X Y S : Nat → Prop) : Prop where
  m : Mods S W W'
  le : W1.heap.size ≤ W0.heap.size
  off : ∀ k, LF W0 W X k → ¬ S k ∧ ¬ Y k
section
variable {W0 W W1 W' : World} {X Y S : Nat → Prop} {b T nx B lo kb ob : Nat} {l : PLd} {kv ov : Value} {L : List PVt} {O : List POp}
theorem LF.lt {k : Nat} (h : LF W0 W X k) : k < W.heap.size := by obtain ⟨_, _, cs, h⟩ := h; exact h.lt
theorem LMv.bys (h : LMv W0 W W1 W' X Y S) : LMb W0 W W1 W' X Y S := ⟨h.m, h.le, fun k hk => h.off k hk.1 hk.2.1 hk.lt⟩
theorem LF.move (hv : LMb W0 W W1 W' X Y S) {k : Nat} (h : LF W0 W X k) : LF W1 W' Y k := by
  have ho := hv.off k h
  obtain ⟨h1, h2, cs, h3⟩ := h
  exact ⟨Nat.le_trans hv.le h1, ho.2, cs, h3.mods hv.m ho.1⟩
theorem VoAt.move (hv : LMb W0 W W1 W' X Y S) {o : Option PVt} {u : Option Value} (h : VoAt W0 W X o u) : VoAt W1 W' Y o u :=
  ⟨h.none_, fun v e => by
    obtain ⟨A, c, h1, h2, h3, h4⟩ := h.some_ v e
    exact ⟨A, c, h1, h2.mods' hv.m (fun hne a ha hs => (hv.off _ (h3 hne a ha)).1 hs), fun hne a ha => (h3 hne a ha).move hv, h4⟩⟩
theorem OpAt.move (hv : LMb W0 W W1 W' X Y S) {o : Option POp} {u : Option Value} (h : OpAt W0 W X o u) : OpAt W1 W' Y o u :=
  ⟨h.none_, fun v e => by
    obtain ⟨A, c, B, h1, h2, h3, h4⟩ := h.some_ v e
    exact ⟨A, c, B, h1, h2.mods' hv.m (fun hne a ha hs => (hv.off _ (h3 hne a ha)).1 hs), fun hne a ha => (h3 hne a ha).move hv, h4⟩⟩
theorem KnM.lt (h : KnM W0 W X lo L T kb) : kb < W.heap.size := by obtain ⟨n, f, h, _⟩ := h; exact h.lt
theorem KnM.own (h : KnM W0 W X lo L T kb) : W0.heap.size ≤ kb ∧ ¬ X kb := by obtain ⟨n, f, _, _, h1, h2, _⟩ := h; exact ⟨h1, h2⟩
theorem KnM.isMap (h : KnM W0 W X lo L T kb) : ∃ es c, W.heap[kb]? = some (.map es c) := by obtain ⟨n, f, h, _⟩ := h; exact h.isMap
theorem OpM.lt (h : OpM W0 W X O T ob) : ob < W.heap.size := by obtain ⟨n, f, h, _⟩ := h; exact h.lt
theorem OpM.own (h : OpM W0 W X O T ob) : W0.heap.size ≤ ob ∧ ¬ X ob := by obtain ⟨n, f, _, _, h1, h2, _⟩ := h; exact ⟨h1, h2⟩
theorem OpM.isMap (h : OpM W0 W X O T ob) : ∃ es c, W.heap[ob]? = some (.map es c) := by obtain ⟨n, f, h, _⟩ := h; exact h.isMap
theorem map_ne_blk {w : World} {m g : Nat} {t : TypeId} {cs : Array Value} (h : ∃ es c, w.heap[m]? = some (.map es c)) (hb : Blk w g t cs) : m ≠ g := by
  rintro rfl
  obtain ⟨es, cl, h1⟩ := h
  unfold Blk at hb
  rw [h1] at hb
  cases hb
theorem KnM.move (hv : LMb W0 W W1 W' X Y S) (h : KnM W0 W X lo L T kb) (hk : ¬ S kb ∧ ¬ Y kb) : KnM W1 W' Y lo L T kb := by
  obtain ⟨n, f, h1, h2, h3, h4, h5⟩ := h
  exact ⟨n, f, h1.mods hv.m hk.1, h2, Nat.le_trans hv.le h3, hk.2, fun s hs => (h5 s hs).move hv⟩
theorem OpM.move (hv : LMb W0 W W1 W' X Y S) (h : OpM W0 W X O T ob) (hk : ¬ S ob ∧ ¬ Y ob) : OpM W1 W' Y O T ob := by
  obtain ⟨n, f, h1, h2, h3, h4, h5⟩ := h
  exact ⟨n, f, h1.mods hv.m hk.1, h2, Nat.le_trans hv.le h3, hk.2, fun s hs => (h5 s hs).move hv⟩
theorem KnM.mono_T (h : KnM W0 W X lo L T kb) {T' : Nat} (hT : T ≤ T') : KnM W0 W X lo L T' kb := by
  obtain ⟨n, f, h1, h2, h3⟩ := h
  exact ⟨n, f, h1, Nat.le_trans h2 hT, h3⟩
theorem OpM.mono_T (h : OpM W0 W X O T ob) {T' : Nat} (hT : T ≤ T') : OpM W0 W X O T' ob := by
  obtain ⟨n, f, h1, h2, h3⟩ := h
  exact ⟨n, f, h1, Nat.le_trans h2 hT, h3⟩
theorem LdB.move (hv : LMv W0 W W1 W' X Y S) (h : LdB W0 W X l T nx B kv ov) : LdB W1 W' Y l T nx B kv ov := by
  rcases h with h | ⟨h1, kb, ob, h2, h3, h4, h5, h6, h7, h8⟩ | ⟨h1, ob, h2, h3, h4, h5⟩
  · exact .inl h
  · exact .inr (.inl ⟨h1, kb, ob, h2, h3, h4, h5, h6, h7.move hv.bys (hv.off _ h7.own.1 h7.own.2 h7.lt), h8.move hv.bys (hv.off _ h8.own.1 h8.own.2 h8.lt)⟩)
  · exact .inr (.inr ⟨h1, ob, h2, h3, h4, h5.move hv.bys (hv.off _ h5.own.1 h5.own.2 h5.lt)⟩)
theorem LdB.mono_T (h : LdB W0 W X l T nx B kv ov) {T' : Nat} (hT : T ≤ T') : LdB W0 W X l T' nx B kv ov := by
  rcases h with h | ⟨h1, kb, ob, h2, h3, h4, h5, h6, h7, h8⟩ | ⟨h1, ob, h2, h3, h4, h5⟩
  · exact .inl h
  · exact .inr (.inl ⟨h1, kb, ob, h2, h3, h4, h5, h6, h7.mono_T hT, h8.mono_T hT⟩)
  · exact .inr (.inr ⟨h1, ob, h2, h3, h4, h5.mono_T hT⟩)
theorem LdS.move (h : LdS W0 W X b l T) (hv : LMv W0 W W1 W' X Y S) (hm : Mods Nil W1 W') (hY : ∀ k, Y k → k < W'.heap.size) : LdS W1 W' Y b l T := by
  obtain ⟨nx, B, kv, ov, h1, h2⟩ := h.blk
  have ho := hv.off b h.lo h.nx h1.lt
  exact ⟨hm, h.good, hY, Nat.le_trans hv.le h.lo, ho.2, nx, B, kv, ov, h1.mods hv.m ho.1, h2.move hv⟩
theorem LdS.ldm (h : LdS W0 W X b l T) {V : World} (hm : Mods (LDM W0 X) W V) : Mods Nil W0 V := h.m.nil_trans hm (fun k hk => hk.1)
/-- What the caller wrote lies in X, or is new. -/
theorem LdS.keep (h : LdS W0 W X b l T) (hm : Mods S W W') (hS : ∀ k, S k → X k ∧ W0.heap.size ≤ k) : LdS W0 W' X b l T :=
  h.move (S := S) ⟨hm, Nat.le_refl _, fun k _ h2 _ => ⟨fun hs => h2 (hS k hs).1, h2⟩⟩ (h.m.nil_trans hm (fun k hk => (hS k hk).2)) (fun k hk => Nat.lt_of_lt_of_le (h.old k hk) hm.size)
theorem LdS.nil (h : LdS W0 W X b l T) (hm : Mods Nil W W') : LdS W0 W' X b l T := h.keep hm (fun _ h => h.elim)
/-- What the caller laid may be told to be X's. -/
theorem LdS.more (h : LdS W0 W X b l T) (hm : Mods Nil W W') {Y : Nat → Prop} (hY : ∀ k, Y k → LDN X W W' k) : LdS W0 W' Y b l T :=
  h.move (S := Nil) ⟨hm, Nat.le_refl _, fun k _ h2 h3 => ⟨fun hs => hs, fun hy => by
    rcases hY k hy with h | h
    · exact h2 h
    · omega⟩⟩ (h.m.trans hm) (fun k hk => by
    rcases hY k hk with h3 | h3
    · exact Nat.lt_of_lt_of_le (h.old k h3) hm.size
    · exact h3.2)
theorem LdS.mono_T (h : LdS W0 W X b l T) {T' : Nat} (hT : T ≤ T') : LdS W0 W X b l T' := by
  obtain ⟨nx, B, kv, ov, h1, h2⟩ := h.blk
  exact ⟨h.m, h.good, h.old, h.lo, h.nx, nx, B, kv, ov, h1, h2.mono_T hT⟩
/-- From an earlier world on. -/
theorem LdS.down {V : World} (h : LdS V W X b l T) (hm : Mods Nil W0 V) : LdS W0 W (fun k => X k ∨ (W0.heap.size ≤ k ∧ k < V.heap.size)) b l T :=
  h.move (S := Nil) ⟨Mods.refl _ _, hm.size, fun k h1 h2 _ => ⟨fun hs => hs, fun hy => by
    rcases hy with h | h
    · exact h2 h
    · omega⟩⟩ (hm.trans h.m) (fun k hk => by
    rcases hk with h3 | h3
    · exact h.old k h3
    · exact Nat.lt_of_lt_of_le h3.2 h.m.size)
/-- What somebody else wrote lies in X; what he laid is X's from now on. -/
theorem LdS.keep_more (h : LdS W0 W X b l T) (hm : Mods S W W') (hS : ∀ k, k < W.heap.size → S k → X k ∧ W0.heap.size ≤ k) : LdS W0 W' (LDN X W W') b l T := by
  have hm2 : Mods (fun k => S k ∧ k < W.heap.size) W W' := hm.mono (fun k hk hs => ⟨hs, hk⟩)
  refine h.move (S := fun k => S k ∧ k < W.heap.size) ⟨hm2, Nat.le_refl _, fun k _ h2 h3 => ⟨fun hs => h2 (hS k hs.2 hs.1).1, fun hy => ?_⟩⟩ (h.m.nil_trans hm2 (fun k hk => (hS k hk.2 hk.1).2)) (fun k hk => ?_)
  · rcases hy with h | h
    · exact h2 h
    · omega
  · rcases hk with h3 | h3
    · exact Nat.lt_of_lt_of_le (h.old k h3) hm.size
    · exact h3.2
theorem KnM.made (T : Nat) (h0 : W0.heap.size ≤ W.heap.size) (hX : ∀ k, X k → k < W.heap.size) : KnM W0 (W.alloc (.map #[] 0)) X lo [] T W.heap.size :=
  ⟨0, _, KMap.made W Try.prog 28, Nat.zero_le _, h0, fun h => by have := hX _ h; omega, fun s hs => ⟨fun _ => rfl, fun v hv => by split at hv <;> cases hv⟩⟩
theorem OpM.made (T : Nat) (h0 : W0.heap.size ≤ W.heap.size) (hX : ∀ k, X k → k < W.heap.size) : OpM W0 (W.alloc (.map #[] 0)) X [] T W.heap.size :=
  ⟨0, _, KMap.made W Try.prog 28, Nat.zero_le _, h0, fun h => by have := hX _ h; omega, fun s hs => ⟨fun _ => rfl, fun v hv => by cases hv⟩⟩
end
theorem infoLd : (Try.prog.info? 90).map (·.size) = some 7 := by kernel_rfl
theorem seven_cells {w : World} {g : Nat} {t : TypeId} {a0 a1 a2 a3 a4 a5 a6 : Value} (h : Blk w g t #[a0, a1, a2, a3, a4, a5, a6]) : w.cell? ⟨g, 0, none⟩ = some a0 ∧ w.cell? ⟨g, 1, none⟩ = some a1 ∧ w.cell? ⟨g, 2, none⟩ = some a2 ∧ w.cell? ⟨g, 3, none⟩ = some a3 ∧ w.cell? ⟨g, 4, none⟩ = some a4 ∧ w.cell? ⟨g, 5, none⟩ = some a5 ∧ w.cell? ⟨g, 6, none⟩ = some a6 :=
  ⟨h.cell 0, h.cell 1, h.cell 2, h.cell 3, h.cell 4, h.cell 5, h.cell 6⟩
end Go.Proofs.Ytpabbhhaagfoeaa
end

section
/- Package leader: New, Begin, Stop, Leads, Ballot, hears; of nil. -/
namespace Go.Proofs.Ytpabbhhaagfoeaa
set_option maxRecDepth 100000
open Go.RowKit Go.Maps
set_option linter.unusedVariables false
set_option linter.unusedSimpArgs false

theorem ldr_new (w : World) {many : Int} (h1 : 1 ≤ many) (h2 : many ≤ 32) : Calls Try.prog 9 #[.int .i64 many] w fun e w' => ∃ b, e = .returned (.tuple #[.pointer (some ⟨b, 0, none⟩), .int .i64 0]) ∧ LdS w w' (fun _ => False) b { many := many.toNat } 0 := by
  have hb1 : decide (many < 1) = false := by simp; omega
  have hb2 : decide (many > 32) = false := by simp; omega
  have HM : Hid ((many.toNat : Int) = many) := Lib.hid (by omega)
  have HG : Hid (PLd.good { many := many.toNat }) := Lib.hid (PLd.good.new (by omega) (by omega))
  clear h1 h2
  go_enter Try.func9, Try.ntmps9
  go_wp2
  go_ret2
  refine ⟨_, rfl, (Mods.refl _ _).alloc _, HG.out, fun k h => h.elim, Nat.le_refl _, fun h => h, 0, 0, .map none, .map none, ?_, .inl ⟨rfl, rfl, rfl⟩⟩
  have := Blk.new w 90 #[.int .i64 many, .int .u64 0, .int .i64 0, .int .u64 0, .int .u32 0, .map none, .map none]
  unfold ldCs
  simp only [HM.out]
  exact this
theorem ldr_new_bad (w : World) {many : Int} (h : many < 1 ∨ 32 < many) : Calls Try.prog 9 #[.int .i64 many] w fun e w' => e = .returned (.tuple #[.pointer none, .int .i64 1]) ∧ Mods Nil w w' := by
  by_cases h1 : many < 1
  · have hb1 : decide (many < 1) = true := by simp; omega
    clear h
    go_enter Try.func9, Try.ntmps9
    go_wp2
    go_ret2
    exact ⟨rfl, Mods.refl _ _⟩
  · have hb1 : decide (many < 1) = false := by simp; omega
    have hb2 : decide (many > 32) = true := by simp; omega
    clear h h1
    go_enter Try.func9, Try.ntmps9
    go_wp2
    go_ret2
    exact ⟨rfl, Mods.refl _ _⟩
section
variable {W0 W W' : World} {X S : Nat → Prop} {b T : Nat} {l : PLd}
theorem LdS.leads (h : LdS W0 W X b l T) : Calls Try.prog 24 #[.pointer (some ⟨b, 0, none⟩)] W fun e W' => e = .returned (.bool (decide (l.stage = 2))) ∧ Mods Nil W W' := by
  obtain ⟨nx, B, kv, ov, h1, h2⟩ := h.blk
  obtain ⟨c0, c1, c2, c3, c4, c5, c6⟩ := seven_cells h1
  obtain ⟨s, hs⟩ : ∃ s, l.stage = s := ⟨_, rfl⟩
  rw [hs] at c2 ⊢
  clear h h1 h2 hs
  by_cases h2 : s = 2
  · subst h2
    go_enter Try.func24, Try.ntmps24
    go_wp2
    go_ret
    exact ⟨rfl, Mods.refl _ _⟩
  · have hb : ((s : Int) == 2) = false := by simp; omega
    have hb2 : (s == 2) = false := by simp; omega
    have hd : decide (s = 2) = false := by simp; omega
    rw [hd]
    clear h2 hd
    go_enter Try.func24, Try.ntmps24
    go_wp2
    go_ret
    exact ⟨rfl, Mods.refl _ _⟩
theorem LdS.ballot (h : LdS W0 W X b l T) : Calls Try.prog 25 #[.pointer (some ⟨b, 0, none⟩)] W fun e W' => e = .returned (.int .u64 (l.bal : Int)) ∧ Mods Nil W W' := by
  obtain ⟨nx, B, kv, ov, h1, h2⟩ := h.blk
  obtain ⟨c0, c1, c2, c3, c4, c5, c6⟩ := seven_cells h1
  clear h h1 h2
  go_enter Try.func25, Try.ntmps25
  go_wp2
  go_ret
  exact ⟨rfl, Mods.refl _ _⟩
/-- Does it hear an acceptor's answer? -/
theorem LdS.hears (h : LdS W0 W X b l T) {s : Nat} (hs : s = 1 ∨ s = 2) (node : Int) {x : Nat} {r : Bool} (hr : r = decide (¬ (l.stage ≠ s ∨ x ≠ l.bal ∨ node < 0 ∨ (l.many : Int) ≤ node))) :
    Calls Try.prog 37 #[.pointer (some ⟨b, 0, none⟩), .int .i64 (s : Int), .int .i64 node, .int .u64 (x : Int)] W fun e W' => e = .returned (.bool r) ∧ W = W' := by
  obtain ⟨nx, B, kv, ov, h1, h2⟩ := h.blk
  obtain ⟨c0, c1, c2, c3, c4, c5, c6⟩ := seven_cells h1
  clear h h1 h2
  obtain ⟨st, hst⟩ : ∃ st, l.stage = st := ⟨_, rfl⟩
  obtain ⟨bl, hbl⟩ : ∃ bl, l.bal = bl := ⟨_, rfl⟩
  obtain ⟨mn, hmn⟩ : ∃ mn, l.many = mn := ⟨_, rfl⟩
  rw [hst, hbl, hmn] at hr
  rw [hst] at c2
  rw [hbl] at c1
  rw [hmn] at c0
  clear hst hbl hmn hs
  by_cases e1 : st = s
  · subst e1
    have g1 : ((st : Int) == (st : Int)) = true := by simp
    have g1n : (st == st) = true := by simp
    by_cases e2 : x = bl
    · subst e2
      have g2 : ((x : Int) == (x : Int)) = true := by simp
      have g2n : (x == x) = true := by simp
      by_cases e3 : node < 0
      · obtain rfl : r = false := by rw [hr]; simp; omega
        have g3 : decide (node ≥ 0) = false := by simp; omega
        have g3n : decide (0 ≤ node) = false := by simp; omega
        clear hr e3
        go_enter Try.func37, Try.ntmps37
        go_wp2
        go_ret
        exact ⟨rfl, rfl⟩
      · have g3 : decide (node ≥ 0) = true := by simp; omega
        have g3n : decide (0 ≤ node) = true := by simp; omega
        by_cases e4 : (mn : Int) ≤ node
        · obtain rfl : r = false := by rw [hr]; simp; omega
          have g4 : decide (node < (mn : Int)) = false := by simp; omega
          clear hr e3 e4
          go_enter Try.func37, Try.ntmps37
          go_wp2
          go_ret
          exact ⟨rfl, rfl⟩
        · obtain rfl : r = true := by rw [hr]; simp; omega
          have g4 : decide (node < (mn : Int)) = true := by simp; omega
          clear hr e3 e4
          go_enter Try.func37, Try.ntmps37
          go_wp2
          go_ret
          exact ⟨rfl, rfl⟩
    · obtain rfl : r = false := by rw [hr]; simp; omega
      have g2 : ((bl : Int) == (x : Int)) = false := by rw [beq_eq_false_iff_ne]; omega
      have g2n : (bl == x) = false := by rw [beq_eq_false_iff_ne]; omega
      clear hr e2
      go_enter Try.func37, Try.ntmps37
      go_wp2
      go_ret
      exact ⟨rfl, rfl⟩
  · obtain rfl : r = false := by rw [hr]; simp; omega
    have g1 : ((st : Int) == (s : Int)) = false := by rw [beq_eq_false_iff_ne]; omega
    have g1n : (st == s) = false := by rw [beq_eq_false_iff_ne]; omega
    clear hr e1
    go_enter Try.func37, Try.ntmps37
    go_wp2
    go_ret
    exact ⟨rfl, rfl⟩
/-- Its own block is another one; all else is as it was. -/
theorem LdS.rebuild (h : LdS W0 W X b l T) {W3 : World} (hm : Mods (fun k => k = b) W W3) : Mods (LDM W0 X) W W3 ∧ Mods Nil W0 W3 ∧ ∀ k, X k → k < W3.heap.size :=
  have h1 : Mods (LDM W0 X) W W3 := hm.mono (fun k _ e => by subst e; exact ⟨h.lo, h.nx⟩)
  ⟨h1, h.ldm h1, fun k hk => Nat.lt_of_lt_of_le (h.old k hk) h1.size⟩
theorem LdS.stop (h : LdS W0 W X b l T) : Calls Try.prog 22 #[.pointer (some ⟨b, 0, none⟩)] W fun e W' => e = .returned (.tuple #[]) ∧ LdS W0 W' X b l.stop T ∧ Mods (LDM W0 X) W W' := by
  obtain ⟨nx, B, kv, ov, h1, h2⟩ := h.blk
  obtain ⟨c0, c1, c2, c3, c4, c5, c6⟩ := seven_cells h1
  have H0 := Lib.hid h
  have H1 := Lib.hid h1
  clear h h1 h2
  go_enter Try.func22, Try.ntmps22
  go_wp2
  go_still_tail 11, (by kernel_rfl)
  refine wpList_store_mk rfl 90 (.tmp 14) (.tmp 13) rfl rfl b rfl 90 _ #[.int .i64 (l.many : Int), .int .u64 (l.bal : Int), .int .i64 0, .int .u64 0, .int .u32 0, .map none, .map none] rfl H1.out.drew rfl (by simp [Value.oneCell']) infoLd (by simp [Value.cells]) ?_
  intro w4 b4 m4
  have B4 := Lib.hid b4
  have M4 := Lib.hid (Mods.trans ((Mods.refl _ W).drew) m4)
  clear b4 m4
  go_wp2
  obtain ⟨g1, g2, g3⟩ := H0.out.rebuild M4.out
  exact bodyPost_end (results_none rfl _ _ _) rfl ⟨rfl, ⟨g2, H0.out.good.stop, g3, H0.out.lo, H0.out.nx, 0, 0, .map none, .map none, B4.out, .inl ⟨rfl, rfl, rfl⟩⟩, g1⟩
theorem isMask_nil : isMask 0 [] := ⟨by omega, fun j => by simp⟩
set_option maxHeartbeats 1600000 in
theorem LdS.begin_ (h : LdS W0 W X b l T) {x f : Nat} (hx : x < 18446744073709551616) (hf : f < 18446744073709551616) :
    Calls Try.prog 11 #[.pointer (some ⟨b, 0, none⟩), .int .u64 (x : Int), .int .u64 (f : Int)] W fun e W' => e = .returned (.int .i64 (l.beginE x : Int)) ∧ LdS W0 W' X b (l.begin_ x f) T ∧ Mods (LDM W0 X) W W' := by
  obtain ⟨nx, B, kv, ov, h1, h2⟩ := h.blk
  obtain ⟨c0, c1, c2, c3, c4, c5, c6⟩ := seven_cells h1
  have H0 := Lib.hid h
  have H1 := Lib.hid h1
  by_cases hxb : x ≤ l.bal
  · have g1 : decide ((x : Int) ≤ (l.bal : Int)) = true := by simp; omega
    have g1n : decide (x ≤ l.bal) = true := by simp; omega
    have HE : Hid (l.beginE x = 32 ∧ l.begin_ x f = l) := Lib.hid ⟨if_pos hxb, if_pos hxb⟩
    clear h h1 h2 hxb hx hf
    go_enter Try.func11, Try.ntmps11
    go_wp2
    go_ret
    rw [HE.out.1, HE.out.2]
    exact ⟨rfl, H0.out, Mods.refl _ _⟩
  · have g1 : decide ((x : Int) ≤ (l.bal : Int)) = false := by simp; omega
    have g1n : decide (x ≤ l.bal) = false := by simp; omega
    have HG := Lib.hid (h.good.begin_ hx hf)
    have HE : Hid (l.beginE x = 0 ∧ l.begin_ x f = { many := l.many, stage := 1, bal := x, first := f }) := Lib.hid ⟨if_neg hxb, if_neg hxb⟩
    have HL := Lib.hid h1.lt
    have hmm := @run_makeMap Try.prog
    clear h h1 h2 hxb hx hf
    go_enter Try.func11, Try.ntmps11
    go_wp2_with (first
      | (refine wpList_store_mk rfl 90 (.tmp 25) (.tmp 24) rfl rfl b rfl 90 _ #[.int .i64 (l.many : Int), .int .u64 (x : Int), .int .i64 1, .int .u64 (f : Int), .int .u32 0, .map (some W.heap.size), .map (some (W.heap.size + 1))] rfl ((H1.out.alloc (.map #[] 0)).alloc (.map #[] 0)) rfl (by simp [Value.oneCell']) infoLd (by simp [Value.cells]) ?_; intro w4 b4 m4; have B4 := Lib.hid b4; have M4 := Lib.hid m4; clear b4 m4))
    go_ret
    rw [HE.out.1]
    have hg := HG.out
    rw [HE.out.2] at hg ⊢
    have m2 : Mods Nil W ((W.alloc (.map #[] 0)).alloc (.map #[] 0)) := ((Mods.refl _ _).alloc _).alloc _
    have s1 : (W.alloc (.map #[] 0)).heap.size = W.heap.size + 1 := by simp
    obtain ⟨g1, g2, g3⟩ := H0.out.rebuild ((m2.mono (fun _ _ h => h.elim)).trans M4.out)
    have hl := HL.out
    have kn : KnM W0 ((W.alloc (.map #[] 0)).alloc (.map #[] 0)) X f [] T W.heap.size := (KnM.made (W0 := W0) (W := W) (lo := f) T H0.out.m.size H0.out.old).move (S := Nil) ⟨(Mods.refl _ _).alloc _, Nat.le_refl _, fun k hk => ⟨fun h => h, hk.2.1⟩⟩ ⟨fun h => h, fun h => by have := H0.out.old _ h; omega⟩
    have om : OpM W0 ((W.alloc (.map #[] 0)).alloc (.map #[] 0)) X [] T (W.heap.size + 1) := by
      have := OpM.made (W0 := W0) (W := W.alloc (.map #[] 0)) (X := X) T (Nat.le_trans H0.out.m.size (by simp)) (fun k hk => Nat.lt_of_lt_of_le (H0.out.old k hk) (by simp))
      rw [s1] at this
      exact this
    have hv : LMb W0 ((W.alloc (.map #[] 0)).alloc (.map #[] 0)) W0 w4 X X (fun k => k = b) := ⟨M4.out, Nat.le_refl _, fun k hk => ⟨fun e => by
      subst e
      obtain ⟨_, _, cs, hb⟩ := hk
      exact ((H1.out.alloc (.map #[] 0)).alloc (.map #[] 0)).ne_ hb (by decide) rfl, hk.2.1⟩⟩
    refine ⟨rfl, ⟨g2, hg, g3, H0.out.lo, H0.out.nx, f, 0, .map (some W.heap.size), .map (some (W.heap.size + 1)), B4.out, .inr (.inl ⟨rfl, W.heap.size, W.heap.size + 1, rfl, rfl, by omega, rfl, isMask_nil, kn.move hv ⟨by omega, kn.own.2⟩, om.move hv ⟨by omega, om.own.2⟩⟩)⟩, g1⟩
end
/-! Of nil. -/
theorem ldr_begin_nil (W : World) (x y : Int) : Calls Try.prog 11 #[.pointer none, .int .u64 x, .int .u64 y] W fun e W' => e = .returned (.int .i64 1) ∧ Mods Nil W W' := by
  go_enter Try.func11, Try.ntmps11
  go_wp2
  go_ret
  exact ⟨rfl, Mods.refl _ _⟩
theorem hears_nil (W : World) (s node x : Int) : Calls Try.prog 37 #[.pointer none, .int .i64 s, .int .i64 node, .int .u64 x] W fun e W' => e = .returned (.bool false) ∧ W = W' := by
  go_enter Try.func37, Try.ntmps37
  go_wp2
  go_ret
  exact ⟨rfl, rfl⟩
theorem ldr_prom_nil (W : World) (x y z : Int) (A : Option Addr) (n c : Nat) : Calls Try.prog 13 #[.pointer none, .int .i64 x, .int .u64 y, .int .u64 z, .slice A n c] W fun e W' => ∃ v, e = .returned (.tuple #[v, .bool false]) ∧ Mods Nil W W' := by
  go_enter Try.func13, Try.ntmps13
  go_wp2_with (go_at_call 37; refine (hears_nil _ _ _ _).mono ?_; rintro e w' ⟨rfl, rfl⟩)
  go_ret2
  exact ⟨_, rfl, Mods.refl _ _⟩
theorem infoVtL : (Try.prog.info? 49).map (·.size) = some 3 := by kernel_rfl
theorem ldr_prop_nil (W : World) (A : Option Addr) (n c : Nat) : Calls Try.prog 17 #[.pointer none, .slice A n c] W fun e W' => ∃ v, e = .returned (.tuple #[v, .int .i64 1]) ∧ Mods Nil W W' := by
  have bA := Blk.new W 49 #[.int .u64 0, .int .u64 0, .slice none 0 0]
  have BA := Lib.hid bA
  clear bA
  go_enter Try.func17, Try.ntmps17
  go_wp2_with (refine wpList_store_mk rfl 49 (.tmp 4) (.tmp 8) rfl rfl W.heap.size rfl 49 #[.int .u64 0, .int .u64 0, .slice none 0 0] #[.int .u64 0, .int .u64 0, .slice none 0 0] rfl BA.out rfl (by simp [Value.oneCell']) infoVtL (by simp [Value.cells]) ?_; intro w4 b4 m4; have B4 := Lib.hid b4; have M4 := Lib.hid m4; clear b4 m4)
  exact bodyPost_ret (results_row_tmp rfl _ _ rfl rfl B4.out Try.underlying49 rfl infoVtL) rfl ⟨_, rfl, ((Mods.refl Nil W).alloc _).nil_trans M4.out (fun i h => by omega)⟩
theorem ldr_acc_nil (W : World) (x y z : Int) : Calls Try.prog 20 #[.pointer none, .int .i64 x, .int .u64 y, .int .u64 z] W fun e W' => ∃ v, e = .returned (.tuple #[v, .bool false]) ∧ Mods Nil W W' := by
  have bA := Blk.new W 49 #[.int .u64 0, .int .u64 0, .slice none 0 0]
  have BA := Lib.hid bA
  clear bA
  go_enter Try.func20, Try.ntmps20
  go_wp2_with (first
    | (go_at_call 37; refine (hears_nil _ _ _ _).mono ?_; rintro e w' ⟨rfl, rfl⟩)
    | (refine wpList_store_mk rfl 49 (.tmp 8) (.tmp 17) rfl rfl W.heap.size rfl 49 #[.int .u64 0, .int .u64 0, .slice none 0 0] #[.int .u64 0, .int .u64 0, .slice none 0 0] rfl BA.out rfl (by simp [Value.oneCell']) infoVtL (by simp [Value.cells]) ?_; intro w4 b4 m4; have B4 := Lib.hid b4; have M4 := Lib.hid m4; clear b4 m4))
  exact bodyPost_ret (results_row_tmp rfl _ _ rfl rfl B4.out Try.underlying49 rfl infoVtL) rfl ⟨_, rfl, ((Mods.refl Nil W).alloc _).nil_trans M4.out (fun i h => by omega)⟩
theorem ldr_open_nil (W : World) : Calls Try.prog 26 #[.pointer none] W fun e W' => ∃ A c, e = .returned (.slice A 0 c) ∧ Mods Nil W W' := by
  go_enter Try.func26, Try.ntmps26
  go_wp2
  go_ret
  exact ⟨_, _, rfl, Mods.refl _ _⟩
theorem ldr_leads_nil (W : World) : Calls Try.prog 24 #[.pointer none] W fun e W' => e = .returned (.bool false) ∧ Mods Nil W W' := by
  go_enter Try.func24, Try.ntmps24
  go_wp2
  go_ret
  exact ⟨rfl, Mods.refl _ _⟩
theorem ldr_ballot_nil (W : World) : Calls Try.prog 25 #[.pointer none] W fun e W' => e = .returned (.int .u64 0) ∧ Mods Nil W W' := by
  go_enter Try.func25, Try.ntmps25
  go_wp2
  go_ret
  exact ⟨rfl, Mods.refl _ _⟩
theorem ldr_stop_nil (W : World) : Calls Try.prog 22 #[.pointer none] W fun e W' => e = .returned (.tuple #[]) ∧ Mods Nil W W' := by
  go_enter Try.func22, Try.ntmps22
  go_wp2
  exact bodyPost_end (results_none rfl _ _ _) rfl ⟨rfl, Mods.refl _ _⟩
end Go.Proofs.Ytpabbhhaagfoeaa
end

section
/- Package leader: nodes as bits: with, has, areMajority; bits.OnesCount32. -/
namespace Go.Proofs.Ytpabbhhaagfoeaa
set_option maxRecDepth 100000
open Go.RowKit Go.Maps
set_option linter.unusedVariables false
set_option linter.unusedSimpArgs false

/-- How many of the first i bits are set. -/
def popc (B : Nat) : Nat → Nat
  | 0 => 0
  | i + 1 => popc B i + (if B.testBit i then 1 else 0)
theorem popc_le (B : Nat) : ∀ i, popc B i ≤ i
  | 0 => Nat.le_refl _
  | i + 1 => by
    have := popc_le B i
    simp only [popc]
    split <;> omega
theorem popc_filter {B : Nat} {W : List Nat} (h : ∀ j, B.testBit j = decide (j ∈ W)) : ∀ i, popc B i = ((List.range i).filter (fun j => decide (j ∈ W))).length
  | 0 => rfl
  | i + 1 => by
    rw [popc, popc_filter h i, List.range_succ, List.filter_append, List.length_append, h i]
    by_cases hi : i ∈ W <;> simp [hi]
theorem popc_all {n B : Nat} {W : List Nat} (h : isMask B W) (hd : W.Nodup) (hn : ∀ j ∈ W, j < n) : popc B n = W.length := by
  rw [popc_filter h.2 n]
  refine List.Perm.length_eq ((List.perm_ext_iff_of_nodup (List.nodup_range.sublist List.filter_sublist) hd).2 (fun j => ?_))
  simp only [List.mem_filter, List.mem_range, decide_eq_true_eq]
  exact ⟨fun g => g.2, fun g => ⟨hn j g, g⟩⟩
theorem popc_add (B i : Nat) : ∀ k, popc B (i + k) = popc B i + popc (B / 2 ^ i) k
  | 0 => rfl
  | k + 1 => by
    rw [← Nat.add_assoc, popc, popc_add B i k, popc, Nat.testBit_div_two_pow, Nat.add_comm i k]
    omega
theorem popc_mod (B : Nat) : ∀ k, k ≤ 8 → popc (B % 256) k = popc B k
  | 0, _ => rfl
  | k + 1, h => by
    rw [popc, popc, popc_mod B k (by omega), show (256 : Nat) = 2 ^ 8 from rfl, Nat.testBit_mod_two_pow]
    simp [show k < 8 by omega]
theorem popc_8 : ∀ x : Fin 256, Lib.onesCount x.val = popc x.val 8 := by decide +kernel
theorem popc_32 (B : Nat) (hB : B < 4294967296) : Lib.onesCount (B / 16777216) + Lib.onesCount (B / 65536 % 256) + Lib.onesCount (B / 256 % 256) + Lib.onesCount (B % 256) = popc B 32 := by
  have h1 := popc_add B 8 24
  have h2 := popc_add (B / 2 ^ 8) 8 16
  have h3 := popc_add (B / 2 ^ 8 / 2 ^ 8) 8 8
  simp only [Nat.div_div_eq_div_mul] at h1 h2 h3
  have e1 := popc_8 ⟨B / 16777216, by omega⟩
  have e2 := popc_8 ⟨B / 65536 % 256, by omega⟩
  have e3 := popc_8 ⟨B / 256 % 256, by omega⟩
  have e4 := popc_8 ⟨B % 256, by omega⟩
  simp only at e1 e2 e3 e4
  rw [e1, e2, e3, e4, popc_mod _ 8 (by omega), popc_mod _ 8 (by omega), popc_mod _ 8 (by omega)]
  simp only [Nat.reducePow, Nat.reduceMul, Nat.reduceAdd] at h1 h2 h3
  omega
theorem mask_with {B node : Nat} {L : List Nat} (h : isMask B L) (hn : node < 32) : isMask (B ||| 2 ^ node) (L ++ [node]) ∧ isMask (B ||| 2 ^ node) (addW L node) := by
  have hp : 2 ^ node < 2 ^ 32 := Nat.pow_lt_pow_right (by omega) (by omega)
  have hlt : B ||| 2 ^ node < 4294967296 := Nat.or_lt_two_pow (n := 32) h.1 hp
  have hb : ∀ j, (B ||| 2 ^ node).testBit j = decide (j ∈ L ∨ j = node) := fun j => by
    rw [Nat.testBit_or, h.2, Nat.testBit_two_pow]
    by_cases h1 : j ∈ L <;> by_cases h2 : node = j
    · simp [h1, h2]
    · simp [h1, h2]
    · subst h2; simp
    · have : ¬ j = node := fun e => h2 e.symm
      simp [h1, h2, this]
  refine ⟨⟨hlt, fun j => by rw [hb]; simp⟩, hlt, fun j => ?_⟩
  rw [hb]
  unfold addW
  by_cases hm : node ∈ L
  · rw [if_pos hm]
    by_cases h2 : j = node
    · subst h2; simp [hm]
    · simp [h2]
  · rw [if_neg hm]
    simp
theorem mask_has {B node : Nat} {L : List Nat} (h : isMask B L) (hn : node < 32) : (((B ||| 2 ^ node : Nat) : Int) == (B : Int)) = decide (node ∈ L) := by
  have h1 : ((B ||| 2 ^ node) = B) ↔ node ∈ L := by
    constructor
    · intro e
      have := congrArg (·.testBit node) e
      simp only [Nat.testBit_or, Nat.testBit_two_pow, decide_true, Bool.or_true, h.2] at this
      simpa using this.symm
    · intro hm
      refine Nat.eq_of_testBit_eq fun j => ?_
      rw [Nat.testBit_or, Nat.testBit_two_pow, h.2]
      by_cases h2 : node = j
      · subst h2; simp [hm]
      · simp [h2]
  by_cases hm : node ∈ L
  · rw [h1.2 hm]; simp [hm]
  · have : ¬ (B ||| 2 ^ node) = B := fun e => hm (h1.1 e)
    rw [show decide (node ∈ L) = false by simp [hm], beq_eq_false_iff_ne]
    omega
theorem lor32 (a b : Nat) (ha : a < 4294967296) (hb : b < 4294967296) : bits .or .u32 (a : Int) (b : Int) = ((a ||| b : Nat) : Int) := by
  have hor : a ||| b < 4294967296 := Nat.or_lt_two_pow (n := 32) ha hb
  have key : (BitVec.ofInt 32 (a : Int) ||| BitVec.ofInt 32 (b : Int)).toNat = a ||| b := by
    rw [BitVec.toNat_or, BitVec.toNat_ofInt, BitVec.toNat_ofInt]
    rw [show ((a : Int) % ((2 ^ 32 : Nat) : Int)).toNat = a by omega, show ((b : Int) % ((2 ^ 32 : Nat) : Int)).toNat = b by omega]
  show IntKind.u32.wrap ((BitVec.ofInt 32 (a : Int) ||| BitVec.ofInt 32 (b : Int)).toNat : Nat) = _
  rw [key, IntKind.wrap_u32]
  omega
theorem land32 (a : Nat) (ha : a < 4294967296) : bits .and .u32 (a : Int) 255 = ((a % 256 : Nat) : Int) := by
  have h3 : (BitVec.ofInt 32 255).toNat = 2 ^ 8 - 1 := by decide
  have key : (BitVec.ofInt 32 (a : Int) &&& BitVec.ofInt 32 255).toNat = a % 2 ^ 8 := by
    rw [BitVec.toNat_and, BitVec.toNat_ofInt, h3, Nat.and_two_pow_sub_one_eq_mod, show ((a : Int) % ((2 ^ 32 : Nat) : Int)).toNat = a by omega]
  show IntKind.u32.wrap ((BitVec.ofInt 32 (a : Int) &&& BitVec.ofInt 32 255).toNat : Nat) = _
  rw [key, IntKind.wrap_u32]
  omega
theorem gq_pop {C : World → Prop} {K : Act → Prop} {a : Act} {o : Oper} {s : ByteArray} {j : Operand} (ho : o.op = .index 9 (.const (.string s)) j) (hs : s = Lib.pop8tab) (k : IntKind) (i : Nat) (hj : a.eval j = .int k (i : Int)) (h1 : i ≤ 255) {p : Nat} (hp : Lib.onesCount i = p) (hk : K (a.put o.dst (.int .u8 (p : Int)))) : o.quiet Try.prog a C K := by
  subst hs
  subst hp
  refine gq_op (v := .int .u8 (Lib.onesCount i : Int)) (fun w hw => ?_) hk
  have := Lib.run_index_pop8tab (P := Try.prog) (w := w) 9 k (i : Int) Try.underlying9 (by omega) (by omega)
  have e := Lib.pop8_eq ⟨i, by omega⟩
  simp only at e
  rw [e] at this
  unfold execOp
  simp only [ho, hj, Sem.run_bind, show Act.eval a (.const (.string Lib.pop8tab)) = .string Lib.pop8tab from rfl, this, Result.andThen_ok, Sem.run_pure]
set_option maxHeartbeats 1600000 in
theorem ones_any (W : World) {B : Nat} (hB : B < 4294967296) : Calls Try.prog 55 #[.int .u32 (B : Int)] W fun e W' => e = .returned (.int .i64 (popc B 32 : Int)) ∧ Mods Nil W W' := by
  have HP := Lib.hid (popc_32 B hB)
  obtain ⟨x3, h3⟩ : ∃ x3, B / 16777216 = x3 := ⟨_, rfl⟩
  obtain ⟨x2, h2⟩ : ∃ x2, B / 65536 % 256 = x2 := ⟨_, rfl⟩
  obtain ⟨x1, h1⟩ : ∃ x1, B / 256 % 256 = x1 := ⟨_, rfl⟩
  obtain ⟨x0, h0⟩ : ∃ x0, B % 256 = x0 := ⟨_, rfl⟩
  have l3 : x3 ≤ 255 := by omega
  have l2 : x2 ≤ 255 := by omega
  have l1 : x1 ≤ 255 := by omega
  have l0 : x0 ≤ 255 := by omega
  have q3 : (B : Int) / 16777216 = (x3 : Int) := by omega
  have q2 : bits .and .u32 ((B : Int) / 65536) 255 = (x2 : Int) := by rw [← h2, ← land32 (B / 65536) (by omega)]; rfl
  have q1 : bits .and .u32 ((B : Int) / 256) 255 = (x1 : Int) := by rw [← h1, ← land32 (B / 256) (by omega)]; rfl
  have q0 : bits .and .u32 (B : Int) 255 = (x0 : Int) := by rw [← h0, ← land32 B hB]
  rw [h3, h2, h1, h0] at HP
  obtain ⟨p3, e3⟩ : ∃ p3, Lib.onesCount x3 = p3 := ⟨_, rfl⟩
  obtain ⟨p2, e2⟩ : ∃ p2, Lib.onesCount x2 = p2 := ⟨_, rfl⟩
  obtain ⟨p1, e1⟩ : ∃ p1, Lib.onesCount x1 = p1 := ⟨_, rfl⟩
  obtain ⟨p0, e0⟩ : ∃ p0, Lib.onesCount x0 = p0 := ⟨_, rfl⟩
  have b3 := Lib.onesCount_le8 ⟨x3, by omega⟩
  have b2 := Lib.onesCount_le8 ⟨x2, by omega⟩
  have b1 := Lib.onesCount_le8 ⟨x1, by omega⟩
  have b0 := Lib.onesCount_le8 ⟨x0, by omega⟩
  simp only at b3 b2 b1 b0
  rw [e3] at b3
  rw [e2] at b2
  rw [e1] at b1
  rw [e0] at b0
  rw [e3, e2, e1, e0] at HP
  have L3 := Lib.hid l3
  have L2 := Lib.hid l2
  have L1 := Lib.hid l1
  have L0 := Lib.hid l0
  have E3 := Lib.hid e3
  have E2 := Lib.hid e2
  have E1 := Lib.hid e1
  have E0 := Lib.hid e0
  clear h3 h2 h1 h0 e3 e2 e1 e0 hB l3 l2 l1 l0
  go_enter Try.func55, Try.ntmps55
  go_wp2
  refine gq_region (by kernel_rfl) (by kernel_rfl) ?_
  repeat (first
    | go_big_quiet_skip
    | (go_big_quiet_want; first
        | (refine gq_pop rfl (by kernel_rfl) _ x3 rfl L3.out E3.out ?_; go_big_quiet_on)
        | (refine gq_pop rfl (by kernel_rfl) _ x2 rfl L2.out E2.out ?_; go_big_quiet_on)
        | (refine gq_pop rfl (by kernel_rfl) _ x1 rfl L1.out E1.out ?_; go_big_quiet_on)
        | (refine gq_pop rfl (by kernel_rfl) _ x0 rfl L0.out E0.out ?_; go_big_quiet_on)
        | (refine gq_op (v := ?_) ?_ ?_; rotate_left; (focus (intro V hV; go_simp; try with_reducible rfl)); go_big_quiet_on))
      simp only [Act.put, List.setIfInBounds_toArray, List.set_cons_zero, List.set_cons_succ])
  intro V hV
  have hs : IntKind.i64.wrap (IntKind.u8.wrap (IntKind.u8.wrap (IntKind.u8.wrap ((p3 : Int) + (p2 : Int)) + (p1 : Int)) + (p0 : Int))) = (popc B 32 : Int) := by
    have := HP.out
    simp only [IntKind.wrap_u8, IntKind.wrap_i64]
    omega
  rw [hs]
  have MV := Lib.hid hV
  clear hV hs
  go_wp2
  go_ret
  exact ⟨rfl, MV.out⟩
theorem lwith_p (W : World) {B node : Nat} (hB : B < 4294967296) (hn : node < 32) : Calls Try.prog 39 #[.int .u32 (B : Int), .int .i64 (node : Int)] W fun e W' => e = .returned (.int .u32 ((B ||| 2 ^ node : Nat) : Int)) ∧ W = W' := by
  have hp : 2 ^ node < 4294967296 := Nat.pow_lt_pow_right (a := 2) (n := 32) (by omega) hn
  have h3 : (2 : Int) ^ node = ((2 ^ node : Nat) : Int) := by simp
  obtain ⟨q, hq⟩ : ∃ q, 2 ^ node = q := ⟨_, rfl⟩
  rw [hq] at h3 hp ⊢
  have hw : (q : Int) % 4294967296 = (q : Int) := by omega
  obtain ⟨C, hC⟩ : ∃ C, B ||| q = C := ⟨_, rfl⟩
  have ho : bits .or .u32 (B : Int) (q : Int) = (C : Int) := by rw [lor32 _ _ hB hp, hC]
  rw [hC]
  clear hq hC hB hp
  go_enter Try.func39, Try.ntmps39
  go_wp2
  go_ret
  refine ⟨?_, rfl⟩
  first | rfl | simp only [h3, hw, ho]
theorem lwith_v (W : World) {B node : Nat} (hB : B < 4294967296) (hn : node < 32) : Calls Try.prog 46 #[.int .u32 (B : Int), .int .i64 (node : Int)] W fun e W' => e = .returned (.int .u32 ((B ||| 2 ^ node : Nat) : Int)) ∧ W = W' := by
  have hp : 2 ^ node < 4294967296 := Nat.pow_lt_pow_right (a := 2) (n := 32) (by omega) hn
  have h3 : (2 : Int) ^ node = ((2 ^ node : Nat) : Int) := by simp
  obtain ⟨q, hq⟩ : ∃ q, 2 ^ node = q := ⟨_, rfl⟩
  rw [hq] at h3 hp ⊢
  have hw : (q : Int) % 4294967296 = (q : Int) := by omega
  obtain ⟨C, hC⟩ : ∃ C, B ||| q = C := ⟨_, rfl⟩
  have ho : bits .or .u32 (B : Int) (q : Int) = (C : Int) := by rw [lor32 _ _ hB hp, hC]
  rw [hC]
  clear hq hC hB hp
  go_enter Try.func46, Try.ntmps46
  go_wp2
  go_ret
  refine ⟨?_, rfl⟩
  first | rfl | simp only [h3, hw, ho]
theorem lhas_p (W : World) {B node : Nat} {L : List Nat} (h : isMask B L) (hn : node < 32) : Calls Try.prog 38 #[.int .u32 (B : Int), .int .i64 (node : Int)] W fun e W' => e = .returned (.bool (decide (node ∈ L))) ∧ W = W' := by
  have HW := Lib.hid (lwith_p W h.1 hn)
  have hq := mask_has h hn
  obtain ⟨C, hC⟩ : ∃ C, B ||| 2 ^ node = C := ⟨_, rfl⟩
  rw [hC] at HW hq
  have hqn : (C == B) = decide (node ∈ L) := by
    rw [← hq]
    by_cases e : C = B
    · subst e; simp
    · rw [beq_eq_false_iff_ne.2 e, beq_eq_false_iff_ne.2 (fun h => e (by omega))]
  clear hC h hn
  go_enter Try.func38, Try.ntmps38
  go_wp2_with (go_at_call 39; refine HW.out.mono ?_; rintro e w1 ⟨rfl, rfl⟩)
  go_ret
  exact ⟨rfl, rfl⟩
theorem lmaj_p (W : World) {B many m2 : Nat} (hB : B < 4294967296) (hm : many ≤ 32) (h2 : many / 2 = m2) : Calls Try.prog 41 #[.int .u32 (B : Int), .int .i64 (many : Int)] W fun e W' => e = .returned (.bool (decide (m2 < popc B 32))) ∧ Mods Nil W W' := by
  have HO := Lib.hid (ones_any W hB)
  have hp := popc_le B 32
  obtain ⟨p, hpp⟩ : ∃ p, popc B 32 = p := ⟨_, rfl⟩
  rw [hpp] at HO hp ⊢
  have hq : Int.tdiv (many : Int) 2 = (m2 : Int) := by rw [← h2]; rfl
  have hq' : (many : Int) / 2 = (m2 : Int) := by omega
  have hm2 : m2 ≤ 16 := by omega
  have hd : decide (m2 + 1 ≤ p) = decide (m2 < p) := rfl
  clear hpp h2 hm hB
  go_enter Try.func41, Try.ntmps41
  go_wp2_with (go_at_call 55; refine HO.out.mono ?_; rintro e w1 ⟨rfl, m1⟩; have M1 := Lib.hid m1; clear m1)
  go_ret
  refine ⟨?_, M1.out⟩
  have e : decide ((m2 : Int) + 1 ≤ (p : Int)) = decide (m2 < p) := decide_eq_decide.2 (by omega)
  show Ending.returned (.bool (decide ((m2 : Int) + 1 ≤ (p : Int)))) = _
  rw [e]
theorem lmaj_v (W : World) {B many m2 : Nat} (hB : B < 4294967296) (hm : many ≤ 32) (h2 : many / 2 = m2) : Calls Try.prog 47 #[.int .u32 (B : Int), .int .i64 (many : Int)] W fun e W' => e = .returned (.bool (decide (m2 < popc B 32))) ∧ Mods Nil W W' := by
  have HO := Lib.hid (ones_any W hB)
  have hp := popc_le B 32
  obtain ⟨p, hpp⟩ : ∃ p, popc B 32 = p := ⟨_, rfl⟩
  rw [hpp] at HO hp ⊢
  have hq : Int.tdiv (many : Int) 2 = (m2 : Int) := by rw [← h2]; rfl
  have hq' : (many : Int) / 2 = (m2 : Int) := by omega
  have hm2 : m2 ≤ 16 := by omega
  have hd : decide (m2 + 1 ≤ p) = decide (m2 < p) := rfl
  clear hpp h2 hm hB
  go_enter Try.func47, Try.ntmps47
  go_wp2_with (go_at_call 55; refine HO.out.mono ?_; rintro e w1 ⟨rfl, m1⟩; have M1 := Lib.hid m1; clear m1)
  go_ret
  refine ⟨?_, M1.out⟩
  have e : decide ((m2 : Int) + 1 ≤ (p : Int)) = decide (m2 < p) := decide_eq_decide.2 (by omega)
  show Ending.returned (.bool (decide ((m2 : Int) + 1 ≤ (p : Int)))) = _
  rw [e]
end Go.Proofs.Ytpabbhhaagfoeaa
end

section
/- Package leader: copied; maps.DeleteFunc with the closure of note. -/
namespace Go.Proofs.Ytpabbhhaagfoeaa
set_option maxRecDepth 100000
open Go.RowKit Go.Maps
set_option linter.unusedVariables false
set_option linter.unusedSimpArgs false
set_option maxHeartbeats 1600000 in
theorem lcopied_any {w : World} (s b : Int) {A : Option Addr} {c n : Nat} {xs : List UInt8} (hn : xs.length = n) (hlim : n ≤ 140737488355328) (hs : Sl w A c (bts xs)) :
    Calls Try.prog 50 #[.agg #[.int .u64 s, .int .u64 b, .slice A n c]] w (CopT w s b xs n) := by
  have m0 : Mods Nil w ((w.alloc (.cells #[.int .u64 s, .int .u64 b, .slice A n c] 49)).alloc (.cells #[.int .u64 0, .int .u64 0, .slice none 0 0] 49)) := ((Mods.refl _ _).alloc _).alloc _
  have bA := (Blk.new w 49 #[.int .u64 s, .int .u64 b, .slice A n c]).alloc (.cells #[.int .u64 0, .int .u64 0, .slice none 0 0] 49)
  have bB := Blk.new (w.alloc (.cells #[.int .u64 s, .int .u64 b, .slice A n c] 49)) 49 #[.int .u64 0, .int .u64 0, .slice none 0 0]
  rw [show (w.alloc (.cells #[.int .u64 s, .int .u64 b, .slice A n c] 49)).heap.size = w.heap.size + 1 from by simp] at bB
  obtain ⟨W, hW⟩ : ∃ W, (w.alloc (.cells #[.int .u64 s, .int .u64 b, .slice A n c] 49)).alloc (.cells #[.int .u64 0, .int .u64 0, .slice none 0 0] 49) = W := ⟨_, rfl⟩
  have hsz : W.heap.size = w.heap.size + 2 := by rw [← hW]; simp
  rw [hW] at bA bB m0
  have HCL := Lib.hid (clone_any hn hlim (hs.mods m0 (fun _ _ h => h)))
  have M0 := Lib.hid m0
  have BA := Lib.hid bA
  have BB := Lib.hid bB
  have HSZ := Lib.hid hsz
  have c2 := bA.cell 2
  simp at c2
  clear hs m0 bA bB hsz hn
  go_enter Try.func50, Try.ntmps50
  go_wp2_with (first
    | (go_at_call 60; refine HCL.out.mono ?_; rintro e w2 ⟨A2, k2, rfl, s2, m2, f2⟩; have S2 := Lib.hid s2; have M2 := Lib.hid m2; have F2 := Lib.hid f2; have B2 := Lib.hid (BA.out.mods m2 (fun h => h)); have B3 := Lib.hid (BB.out.mods m2 (fun h => h)); have f0 := B2.out.frozen 2; have d0 := (B2.out.set_ 2 (.slice A2 n k2)).cell 0; have d1 := (B2.out.set_ 2 (.slice A2 n k2)).cell 1; have d2 := (B2.out.set_ 2 (.slice A2 n k2)).cell 2; simp at d0 d1 d2; have e2 := B2.out.cell 2; simp at e2; clear s2 m2 f2)
    | (refine wpList_store_mk rfl 49 (.tmp 2) (.tmp 7) rfl rfl (w.heap.size + 1) rfl 49 #[.int .u64 0, .int .u64 0, .slice none 0 0] #[.int .u64 s, .int .u64 b, .slice A2 n k2] rfl (B3.out.far (by simp) _) rfl (by simp [Value.oneCell']) infoVtP (by simp [Value.cells]) ?_; intro w4 b4 m4; have B4 := Lib.hid b4; have M4 := Lib.hid m4; clear b4 m4))
  refine bodyPost_ret (results_rowA rfl _ _ rfl B4.out Try.underlying49 rfl infoVtP) rfl ⟨A2, k2, rfl, ?_, ?_, ?_⟩
  · refine (S2.out.mods' (S := fun k => k = w.heap.size) (Mods.setCell (S := fun k => k = w.heap.size) (Mods.refl _ _) (fun _ => rfl) _) (fun hne a ha h => ?_)).mods' M4.out (fun hne a ha h => ?_)
    · have := (F2.out hne a ha).1; have := HSZ.out; omega
    · have := (F2.out hne a ha).1; have := HSZ.out; omega
  · intro hne a ha
    obtain ⟨h1, cs, h2⟩ := F2.out hne a ha
    have h3 := h2.lt
    have h4 := M4.out.size
    simp [World.setCell] at h4
    have := HSZ.out
    exact ⟨by omega, by omega, cs, (h2.far (by show a.block ≠ w.heap.size; omega) _).mods M4.out (fun h => by omega)⟩
  · exact ((M0.out.trans M2.out).nil_trans (T := fun k => k = w.heap.size) (Mods.setCell (S := fun k => k = w.heap.size) (Mods.refl _ _) (fun _ => rfl) _) (fun i h => by omega)).nil_trans M4.out (fun i h => by omega)
theorem Mods.nilGrown {w w' : World} (h : Mods Nil w w') : w.grownBy w' none := ⟨h.os, h.tape, h.output, h.size, fun k hk _ => h.block k hk (fun h => h)⟩
/-- The closure of note. -/
theorem lnote1_any {W : World} {pc b : Nat} {x s : Nat} {i j : Int} {A : Option Addr} {n c : Nat} (h1 : W.cell? ⟨pc, 0, none⟩ = some (.pointer (some ⟨b, 0, none⟩))) (h2 : W.cell? ⟨b, 3, none⟩ = some (.int .u64 (s : Int))) (h1l : pc < W.heap.size) (h2l : b < W.heap.size) :
    Calls Try.prog 54 #[.int .u64 (x : Int), .agg #[.int .u64 i, .int .u64 j, .slice A n c], .pointer (some ⟨pc, 0, none⟩)] W fun e W' => e = .returned (.bool (decide (x < s))) ∧ Mods Nil W W' := by
  have m0 : Mods Nil W (W.alloc (.cells #[.int .u64 i, .int .u64 j, .slice A n c] 49)) := (Mods.refl _ _).alloc _
  have c1 : (W.alloc (.cells #[.int .u64 i, .int .u64 j, .slice A n c] 49)).cell? ⟨pc, 0, none⟩ = some (.pointer (some ⟨b, 0, none⟩)) := (World.cell?_of_block (m0.block pc h1l (fun h => h))).trans h1
  have c2 : (W.alloc (.cells #[.int .u64 i, .int .u64 j, .slice A n c] 49)).cell? ⟨b, 3, none⟩ = some (.int .u64 (s : Int)) := (World.cell?_of_block (m0.block b h2l (fun h => h))).trans h2
  obtain ⟨r, hr⟩ : ∃ r, decide (x < s) = r := ⟨_, rfl⟩
  have hrI : decide ((x : Int) < (s : Int)) = r := by rw [← hr]; exact decide_eq_decide.2 (by omega)
  rw [hr]
  have M0 := Lib.hid m0
  clear h1 h2 m0 h1l h2l
  go_enter Try.func54, Try.ntmps54
  go_wp2
  go_ret
  exact ⟨by simp only [← hrI]; rfl, M0.out⟩
/-- Between two rounds: of the keys that came those below s are gone. -/
structure DG (wr W1 : World) (mb r n s : Nat) (f : Value → Option Value) (left : Lit → Bool) (cnt : Nat) (D : DataW Value) : Prop where
  rg : wr.ranges Try.prog 28 rdV mb r n D left cnt
  sz : Maps.size D ≤ n
  at_ : ∃ f' : Value → Option Value, (∀ x lx, keyOf Try.prog 28 x = some lx → ∀ zd, D.atKey lx zd = match f' x with | some v => .held v | none => zd) ∧ ∀ x : Nat, x < 18446744073709551616 → f' (.int .u64 (x : Int)) = if x < s ∧ left (.int .u64 (x : Int)) = false then none else f (.int .u64 (x : Int))
  m : Mods (fun k => k = mb) W1 wr
section
variable {wr W1 w2 w3 : World} {mb r n s cnt cnt' : Nat} {f : Value → Option Value} {left : Lit → Bool} {D : DataW Value}
/-- What came. -/
theorem DG.came (h : DG wr W1 mb r n s f left cnt D) {x : Nat} (hx : x < 18446744073709551616) (hl : left (.int .u64 (x : Int)) = true) {c : Value} (hat : ∀ zd, D.atKey (.int .u64 (x : Int)) zd = .held c) : f (.int .u64 (x : Int)) = some c := by
  obtain ⟨f', h1, h2⟩ := h.at_
  have e2 := h1 _ _ (keyUL (k := 28) Try.underlying28 hx) .nil
  have e3 := h2 x hx
  rw [hl] at e3
  simp only [Bool.true_eq_false, and_false, if_false] at e3
  rw [hat] at e2
  rw [← e3]
  cases hf : f' (.int .u64 (x : Int)) with
  | none => rw [hf] at e2; cases e2
  | some v => rw [hf] at e2; injection e2 with e2; rw [e2]
/-- An entry came, and nothing was done. -/
theorem DG.step (h : DG wr W1 mb r n s f left cnt D) {x : Nat} (hx : x < 18446744073709551616) (hl : left (.int .u64 (x : Int)) = true) (hr : w2.ranges Try.prog 28 rdV mb r n D (fun z => left z && !z.sameKey (.int .u64 (x : Int))) cnt') (hm : Mods (fun k => k = r) wr w2) (hr1 : W1.heap.size ≤ r) (hs : s ≤ x) :
    DG w2 W1 mb r n s f (fun z => left z && !z.sameKey (.int .u64 (x : Int))) cnt' D := by
  obtain ⟨f', h1, h2⟩ := h.at_
  refine ⟨hr, h.sz, ⟨f', h1, fun y hy => ?_⟩, h.m.trans2 hm (fun i hi e => by omega)⟩
  rw [h2 y hy]
  by_cases hyx : y = x
  · subst hyx
    rw [if_neg (by omega), if_neg (by omega)]
  · have : (Lit.int .u64 (y : Int)).sameKey (.int .u64 (x : Int)) = false := by simp [Lit.sameKey]; omega
    simp only [this, Bool.not_false, Bool.and_true]
/-- An entry came, and was taken out. -/
theorem DG.del (h : DG wr W1 mb r n s f left cnt D) {x : Nat} (hx : x < 18446744073709551616) (hl : left (.int .u64 (x : Int)) = true) (hr : w3.ranges Try.prog 28 rdV mb r n (D.del (.int .u64 (x : Int))) (fun z => left z && !z.sameKey (.int .u64 (x : Int))) cnt') (hm : Mods (fun k => k = r) wr w2) (hm2 : Mods (fun k => k = mb) w2 w3) (hr1 : W1.heap.size ≤ r) (hs : x < s) :
    DG w3 W1 mb r n s f (fun z => left z && !z.sameKey (.int .u64 (x : Int))) cnt' (D.del (.int .u64 (x : Int))) := by
  obtain ⟨f', h1, h2⟩ := h.at_
  have hK : Keyed Try.prog 28 := int_keyed Try.underlying28
  have hkey : keyOf Try.prog 28 (.int .u64 (x : Int)) = some (.int .u64 (x : Int)) := keyUL Try.underlying28 hx
  have htidy := h.rg.owns.tidy hK
  refine ⟨hr, ?_, ⟨delK f' (.int .u64 (x : Int)), fun y hy hyk zd => ?_, fun y hy => ?_⟩, (h.m.trans2 hm (fun i hi e => by omega)).trans hm2⟩
  · have := size_del (k := .int .u64 (x : Int)) htidy
    have := h.sz
    split at * <;> omega
  · unfold delK
    by_cases hyx : y = .int .u64 (x : Int)
    · subst hyx
      rw [hkey] at hyk
      injection hyk with hyk
      subst hyk
      rw [if_pos rfl, atKey_del_same]
    · rw [if_neg hyx, atKey_del_other (fun e => hyx (by subst e; exact hK.inj hyk hkey))]
      exact h1 y hy hyk zd
  · by_cases hyx : y = x
    · subst hyx
      rw [delK_same, if_pos ⟨hs, by simp [Lit.sameKey]⟩]
    · have : (Lit.int .u64 (y : Int)).sameKey (.int .u64 (x : Int)) = false := by simp [Lit.sameKey]; omega
      rw [delK_ne (fun e => by injection e with _ e; omega), h2 y hy]
      simp only [this, Bool.not_false, Bool.and_true]
/-- All came. -/
theorem DG.done (h : DG wr W1 mb r n s f left cnt D) (hl : ∀ kl, left kl = false) : ∃ (f' : Value → Option Value) (m : Nat), KMap Try.prog 28 wr mb m f' ∧ m ≤ n ∧ ∀ x : Nat, x < 18446744073709551616 → f' (.int .u64 (x : Int)) = if x < s then none else f (.int .u64 (x : Int)) := by
  obtain ⟨f', h1, h2⟩ := h.at_
  refine ⟨f', Maps.size D, ⟨D, ownsMap_size h.rg.owns, rfl, h1⟩, h.sz, fun x hx => ?_⟩
  rw [h2 x hx, hl]
  simp
end
/-- What DeleteFunc leaves. -/
def DelT (W : World) (mb n s : Nat) (f : Value → Option Value) (e : Ending) (W' : World) : Prop :=
  e = .returned (.tuple #[]) ∧ (∃ f' m, KMap Try.prog 28 W' mb m f' ∧ m ≤ n ∧ ∀ x : Nat, x < 18446744073709551616 → f' (.int .u64 (x : Int)) = if x < s then none else f (.int .u64 (x : Int))) ∧ Mods (fun k => k = mb) W W'
set_option maxHeartbeats 3200000 in
theorem ldel_any {W : World} {pc b s mb n : Nat} {f : Value → Option Value} {t1 t2 : TypeId} {c1 c2 : Array Value} (hM : KMap Try.prog 28 W mb n f) (h1 : Blk W pc t1 c1) (e1 : c1[0]? = some (.pointer (some ⟨b, 0, none⟩))) (h2 : Blk W b t2 c2) (e2 : c2[3]? = some (.int .u64 (s : Int)))
    (hf : ∀ x : Nat, x < 18446744073709551616 → ∀ u, f (.int .u64 (x : Int)) = some u → ∃ i j A n c, u = .agg #[.int .u64 i, .int .u64 j, .slice A n c]) :
    Calls Try.prog 53 #[.map (some mb), .func (.func 54) #[] #[.pointer (some ⟨pc, 0, none⟩)]] W (DelT W mb n s f) := by
  have n1 : mb ≠ pc := hM.ne_blk h1
  have n2 : mb ≠ b := hM.ne_blk h2
  have HCL : Hid (∀ V, Mods (fun k => k = mb) W V → ∀ (x : Nat) (i j : Int) (A : Option Addr) (n c : Nat), Calls Try.prog 54 #[.int .u64 (x : Int), .agg #[.int .u64 i, .int .u64 j, .slice A n c], .pointer (some ⟨pc, 0, none⟩)] V fun e V' => e = .returned (.bool (decide (x < s))) ∧ Mods Nil V V') := Lib.hid (fun V hV x i j A n c => by
    have g1 := h1.mods hV (fun h => n1 h.symm)
    have g2 := h2.mods hV (fun h => n2 h.symm)
    exact lnote1_any ((g1.cell 0).trans e1) ((g2.cell 3).trans e2) g1.lt g2.lt)
  obtain ⟨D, hown, hsz, hat⟩ := hM
  have HF := Lib.hid hf
  have HOWN := Lib.hid hown
  have HSZ := Lib.hid hsz
  have HAT := Lib.hid hat
  have HLT := Lib.hid hown.lt
  clear h1 e1 h2 e2 hf hown hsz hat n1 n2
  go_enter Try.func53, Try.ntmps53
  go_wp2_with (first
    | (at_range; refine wpList_range_own _ rfl _ 87 rfl 28 49 (int_keyed Try.underlying28) Try.underlying87 _ mb n _ rfl HOWN.out ?_; intro w0 hrg0 hg0 hs0; have HRG := Lib.hid hrg0; have HG0 := Lib.hid hg0; have HS0 := Lib.hid hs0; clear hrg0 hg0 hs0))
  go_frame
  have m0 : Mods (fun k => k = mb) W w0 := (Mods.refl _ _).grown HG0.out (fun k hk => by cases hk)
  have hst : DG w0 W mb W.heap.size n s f (Maps.has D) (Maps.size D) D := ⟨HRG.out, by rw [HSZ.out]; exact Nat.le_refl _, ⟨f, HAT.out, fun x hx => by
    split
    · rename_i hc
      have hkey := keyUL (k := 28) Try.underlying28 hx
      cases hf : f (.int .u64 (x : Int)) with
      | none => rfl
      | some v =>
        have := HAT.out _ _ hkey
        rw [hf] at this
        rw [has_true_of_atKey this] at hc
        cases hc.2
    · rfl⟩, m0⟩
  have HST := Lib.hid hst
  clear hst m0
  go_loopw [8] (fun _ wr => ∃ (left : Lit → Bool) (cnt : Nat) (D' : DataW Value), Hid (DG wr W mb W.heap.size n s f left cnt D')) (fun _ wr => wr.rangeLeft mb W.heap.size)
  case atStart => exact ⟨_, _, _, HST⟩
  case round =>
    obtain ⟨left, cnt, D', HR⟩ := hrel
    go_wp2_with (first
      | (at_next; refine wpList_next_ranges _ rfl _ rfl 28 (int_keyed Try.underlying28) rdV nU id (fun key kl hk => by obtain ⟨x, hx, _⟩ := keyU_inv Try.underlying28 hk; exact ⟨x, hx⟩) (fun v _ _ => ⟨v, rfl⟩) mb W.heap.size n _ _ _ rfl HR.out.rg ?_ ?_))
    · intro hc0 hl0
      have HL0 := Lib.hid hl0
      clear hl0 hc0
      go_wp2_with fail
      exact bodyPost_end (results_none rfl _ _ _) rfl ⟨rfl, HR.out.done HL0.out, HR.out.m⟩
    · intro x c kl yd yp w2 cnt2 hkey hlk hv hat hrg2 hlt hg2 hs2 hen
      obtain ⟨x', ex, rfl, hxu⟩ := keyU_inv Try.underlying28 hkey
      obtain rfl : x = x' := by injection ex
      obtain ⟨y, rfl⟩ : ∃ y : Nat, x = (y : Int) := ⟨x.toNat, by have := hxu.1; omega⟩
      have hy : y < 18446744073709551616 := by have := hxu.2; omega
      have hcv : yd = .held c := by
        have : rdV c = some (yd, yp) := hv
        unfold rdV at this
        injection this with this
        injection this with this
        exact this.symm
      obtain ⟨i, j, A, m, cc, rfl⟩ := HF.out y hy c (HR.out.came hy hlk (fun zd => by rw [hat zd, hcv]))
      have m2 : Mods (fun k => k = W.heap.size) wr w2 := (Mods.refl _ _).grown hg2 (fun k hk _ => by injection hk with hk; exact hk.symm)
      have mw2 : Mods (fun k => k = mb) W w2 := HR.out.m.trans2 m2 (fun i hi e => by omega)
      have m3 : Mods Nil w2 (w2.alloc (.cells #[.int .u64 i, .int .u64 j, .slice A m cc] 49)) := (Mods.refl _ _).alloc _
      have b3 := Blk.new w2 49 #[.int .u64 i, .int .u64 j, .slice A m cc]
      have HEN : Hid ((Instr.entry (.pointer (some ⟨W.heap.size, 0, none⟩))).run Try.prog w2 = .ok (.tuple #[.int .u64 (y : Int), .agg #[.int .u64 i, .int .u64 j, .slice A m cc]]) w2) := Lib.hid hen
      obtain ⟨w3, hw3⟩ : ∃ w3, w2.alloc (.cells #[.int .u64 i, .int .u64 j, .slice A m cc] 49) = w3 := ⟨_, rfl⟩
      rw [hw3] at m3 b3
      have c30 := b3.cell 0
      have c31 := b3.cell 1
      have c32 := b3.cell 2
      simp at c30 c31 c32
      have HCY := Lib.hid (HCL.out w3 (mw2.trans (m3.mono (fun _ _ h => h.elim))) y i j A m cc)
      have HRG3 := Lib.hid (hrg2.kept m3.nilGrown (by simp) (by simp))
      have M2 := Lib.hid m2
      have M3 := Lib.hid m3
      have HLK := Lib.hid hlk
      have HLT2 := Lib.hid hlt
      clear hkey hlk hv hat hrg2 hlt hg2 hs2 m2 m3 mw2 hxu ex b3 hcv
      by_cases hys : y < s
      · have hd : decide (y < s) = true := by simp; omega
        rw [hd] at HCY
        go_wp2_with (first
          | (go_at_call 54; refine HCY.out.mono ?_; rintro e w4 ⟨rfl, m4⟩; have HRG4 := Lib.hid (HRG3.out.kept m4.nilGrown (by simp) (by simp)); have M4 := Lib.hid m4; clear m4)
          | (at_delete; refine wpList_delete_ranges _ rfl _ _ 87 28 rfl 49 (int_keyed Try.underlying28) Try.underlying87 rdV mb W.heap.size n _ _ _ rfl HRG4.out (.int .u64 (y : Int)) _ rfl (keyUL Try.underlying28 hy) ?_; intro w5 cnt5 hrg5 hle5 ht5; rw [Maps.strike_twice] at hrg5; have HRG5 := Lib.hid hrg5; have HLE5 := Lib.hid hle5; have M5 := Lib.hid ((Mods.refl (fun k => k = mb) w4).grown ht5.grown (fun k hk _ => by injection hk with hk; exact hk.symm)); clear hrg5 hle5 ht5; go_frame))
        have m24 : Mods (fun k => k = W.heap.size) wr w4 := M2.out.trans ((M3.out.trans M4.out).mono (fun _ _ h => h.elim))
        refine ⟨⟨_, _, _, Lib.hid (HR.out.del hy HLK.out HRG5.out m24 M5.out (Nat.le_refl _) hys)⟩, ?_⟩
        rw [HRG5.out.left_eq, HR.out.rg.left_eq]
        exact Nat.lt_of_le_of_lt HLE5.out HLT2.out
      · have hd : decide (y < s) = false := by simp; omega
        rw [hd] at HCY
        go_wp2_with (first
          | (go_at_call 54; refine HCY.out.mono ?_; rintro e w4 ⟨rfl, m4⟩; have HRG4 := Lib.hid (HRG3.out.kept m4.nilGrown (by simp) (by simp)); have M4 := Lib.hid m4; clear m4))
        have m24 : Mods (fun k => k = W.heap.size) wr w4 := M2.out.trans ((M3.out.trans M4.out).mono (fun _ _ h => h.elim))
        refine ⟨⟨_, _, _, Lib.hid (HR.out.step hy HLK.out HRG4.out m24 (Nat.le_refl _) (by omega))⟩, ?_⟩
        rw [HRG4.out.left_eq, HR.out.rg.left_eq]
        exact HLT2.out
end Go.Proofs.Ytpabbhhaagfoeaa
end

section
/- Package leader: note. -/
namespace Go.Proofs.Ytpabbhhaagfoeaa
set_option maxRecDepth 100000
open Go.RowKit Go.Maps
set_option linter.unusedVariables false
set_option linter.unusedSimpArgs false

/-- The known votes while votes are noted: from a slot on; ahead of it whatever. -/
def KnW (W0 W : World) (X : Nat → Prop) (lo : Nat) (L : List PVt) (T kb : Nat) : Prop :=
  ∃ n f, KMap Try.prog 28 W kb n f ∧ n ≤ T ∧ W0.heap.size ≤ kb ∧ ¬ X kb ∧ ∀ s : Nat, s < 18446744073709551616 → ∃ o, VoAt W0 W X o (f (.int .u64 (s : Int))) ∧ (lo ≤ s → o = lookV L s)
section
variable {W0 W W' : World} {X S : Nat → Prop} {lo lo' T kb : Nat} {L : List PVt}
theorem KnM.w (h : KnM W0 W X lo L T kb) (hl : lo ≤ lo') : KnW W0 W X lo' L T kb := by
  obtain ⟨n, f, h1, h2, h3, h4, h5⟩ := h
  exact ⟨n, f, h1, h2, h3, h4, fun s hs => ⟨_, h5 s hs, fun h => if_pos (Nat.le_trans hl h)⟩⟩
theorem KnW.own (h : KnW W0 W X lo L T kb) : W0.heap.size ≤ kb ∧ ¬ X kb := by obtain ⟨n, f, _, _, h1, h2, _⟩ := h; exact ⟨h1, h2⟩
theorem KnW.isMap (h : KnW W0 W X lo L T kb) : ∃ es c, W.heap[kb]? = some (.map es c) := by obtain ⟨n, f, h, _⟩ := h; exact h.isMap
theorem KnW.lt (h : KnW W0 W X lo L T kb) : kb < W.heap.size := by obtain ⟨n, f, h, _⟩ := h; exact h.lt
theorem KnW.nil (h : KnW W0 W X lo L T kb) (hm : Mods Nil W W') : KnW W0 W' X lo L T kb := by
  obtain ⟨n, f, h1, h2, h3, h4, h5⟩ := h
  have hv : LMb W0 W W0 W' X X Nil := ⟨hm, Nat.le_refl _, fun k hk => ⟨fun h => h, hk.2.1⟩⟩
  exact ⟨n, f, h1.mods hm (fun h => h), h2, h3, h4, fun s hs => by
    obtain ⟨o, g1, g2⟩ := h5 s hs
    exact ⟨o, g1.move hv, g2⟩⟩
theorem LF.ne_map {k : Nat} (h : LF W0 W X k) (hm : ∃ es c, W.heap[kb]? = some (.map es c)) : k ≠ kb := by
  obtain ⟨_, _, cs, hb⟩ := h
  exact fun e => map_ne_blk hm hb e.symm
/-- The vote of a slot, as the map tells it. -/
theorem KnW.look (h : KnW W0 W X lo L T kb) {s : Nat} (hs : s < 18446744073709551616) : ∃ (o : Option PVt) (q : VtP), (lo ≤ s → o = lookV L s) ∧ (∀ v, o = some v → q.plain = v) ∧
    (∀ V, Mods Nil W V → (Instr.lookup 87 (.map (some kb)) (.int .u64 (s : Int)) true).run Try.prog V = .ok (.tuple #[.agg #[.int .u64 (q.slot : Int), .int .u64 (q.bal : Int), .slice q.A q.val.length q.c], .bool o.isSome]) V) := by
  obtain ⟨n, f, h1, h2, h3, h4, h5⟩ := h
  obtain ⟨o, g1, g2⟩ := h5 s hs
  cases o with
  | none =>
    refine ⟨none, ⟨0, 0, none, 0, []⟩, g2, fun v h => (by cases h), fun V hV => ?_⟩
    exact (h1.mods hV (fun h => h)).miss (int_keyed Try.underlying28) Try.underlying87 (keyUL Try.underlying28 hs) (g1.none_ rfl) (zeroVt V)
  | some v =>
    obtain ⟨A, c, e, hsl, _, hle⟩ := g1.some_ v rfl
    exact ⟨some v, ⟨v.slot, v.bal, A, c, v.val⟩, g2, fun u hu => by injection hu, fun V hV => ((h1.mods hV (fun h => h)).look (int_keyed Try.underlying28) Try.underlying87 (keyUL Try.underlying28 hs) e (zeroVt V)).1⟩
/-- A vote that is no better. -/
theorem KnW.skip (h : KnW W0 W X lo L T kb) {v k : PVt} {o : Option PVt} (ho : lo ≤ v.slot → o = lookV L v.slot) (hk : o = some k) (hb : ¬ k.bal < v.bal) : KnW W0 W X lo (noteV L v) (T + 1) kb := by
  obtain ⟨n, f, h1, h2, h3, h4, h5⟩ := h
  refine ⟨n, f, h1, by omega, h3, h4, fun s hs => ?_⟩
  obtain ⟨o', g1, g2⟩ := h5 s hs
  refine ⟨o', g1, fun hl => ?_⟩
  rw [look_note]
  by_cases e : s = v.slot
  · subst e
    rw [if_pos rfl, ← ho hl, hk]
    simp only [if_neg hb]
    rw [g2 hl, ← ho hl, hk]
  · rw [if_neg e]
    exact g2 hl
/-- A vote is better than what is known. -/
def Better (o : Option PVt) (v : PVt) : Prop := o = none ∨ ∃ k, o = some k ∧ k.bal < v.bal
/-- A vote is laid. -/
theorem KnW.put (h : KnW W0 W X lo L T kb) {v : PVt} {o : Option PVt} (ho : lo ≤ v.slot → o = lookV L v.slot) (hk : Better o v) (hv : v.slot < 18446744073709551616) (hT : T ≤ 2000000) {A : Option Addr} {c n : Nat} (hn : v.val.length = n) (hn2 : n ≤ 100000) (hs : Sl W A c (bts v.val))
    (hA : bts v.val ≠ [] → ∀ a, A = some a → LF W0 W X a.block) :
    ∃ W', (Instr.mapUpdate 87 (.map (some kb)) (.int .u64 (v.slot : Int)) (.agg #[.int .u64 (v.slot : Int), .int .u64 (v.bal : Int), .slice A n c])).run Try.prog W = .ok () W' ∧ KnW W0 W' X lo (noteV L v) (T + 1) kb ∧ Mods (fun i => i = kb) W W' := by
  subst hn
  have hmap := h.isMap
  obtain ⟨m, f, h1, h2, h3, h4, h5⟩ := h
  obtain ⟨W', r, ⟨k, k1, k2, k3⟩, hm⟩ := h1.put (int_keyed Try.underlying28) Try.underlying87 (keyUL Try.underlying28 hv) (by unfold maxLen; omega) (.agg #[.int .u64 (v.slot : Int), .int .u64 (v.bal : Int), .slice A v.val.length c])
  have hmv : LMb W0 W W0 W' X X (fun i => i = kb) := ⟨hm, Nat.le_refl _, fun k hk => ⟨fun e => hk.ne_map hmap e, hk.2.1⟩⟩
  refine ⟨W', r, ⟨k, _, k1, by omega, h3, h4, fun s hs2 => ?_⟩, hm⟩
  by_cases he : s = v.slot
  · subst he
    refine ⟨some v, ⟨fun h => (by cases h), fun u hu => ?_⟩, fun hl => ?_⟩
    · injection hu with hu
      subst hu
      exact ⟨A, c, updK_same _ _ _, hs.mods' hm (fun hne a ha h => (hA hne a ha).ne_map hmap h), fun hne a ha => (hA hne a ha).move hmv, hn2⟩
    · rw [look_note, if_pos rfl, ← ho hl]
      rcases hk with rfl | ⟨k, rfl, hb⟩
      · rfl
      · simp only [if_pos hb]
  · have hne : (Value.int .u64 (s : Int)) ≠ .int .u64 (v.slot : Int) := fun e => by injection e with _ e; exact he (by omega)
    obtain ⟨o', g1, g2⟩ := h5 s hs2
    refine ⟨o', by rw [updK_ne hne]; exact g1.move hmv, fun hl => ?_⟩
    rw [look_note, if_neg he]
    exact g2 hl
/-- What is ahead of the first slot is gone. -/
theorem KnW.done (h : KnW W0 W X lo L T kb) : ∃ n f, KMap Try.prog 28 W kb n f ∧ n ≤ T ∧ (∀ x : Nat, x < 18446744073709551616 → ∀ u, f (.int .u64 (x : Int)) = some u → ∃ i j A n c, u = .agg #[.int .u64 i, .int .u64 j, .slice A n c]) ∧
    ∀ W', Mods (fun k => k = kb) W W' → ∀ f' m, KMap Try.prog 28 W' kb m f' → m ≤ n → (∀ x : Nat, x < 18446744073709551616 → f' (.int .u64 (x : Int)) = if x < lo then none else f (.int .u64 (x : Int))) → KnM W0 W' X lo L T kb := by
  have hmap := h.isMap
  obtain ⟨n, f, h1, h2, h3, h4, h5⟩ := h
  refine ⟨n, f, h1, h2, fun x hx u hu => ?_, fun W' hm f' m k1 k2 k3 => ⟨m, f', k1, by omega, h3, h4, fun s hs => ?_⟩⟩
  · obtain ⟨o, g1, _⟩ := h5 x hx
    cases o with
    | none => rw [g1.none_ rfl] at hu; cases hu
    | some v =>
      obtain ⟨A, c, e, _⟩ := g1.some_ v rfl
      rw [e] at hu
      injection hu with hu
      exact ⟨_, _, _, _, _, hu.symm⟩
  · have hmv : LMb W0 W W0 W' X X (fun i => i = kb) := ⟨hm, Nat.le_refl _, fun k hk => ⟨fun e => hk.ne_map hmap e, hk.2.1⟩⟩
    rw [k3 s hs]
    by_cases hl : s < lo
    · rw [if_pos hl, if_neg (by omega)]
      exact ⟨fun _ => rfl, fun v hv => (by cases hv)⟩
    · rw [if_neg hl, if_pos (by omega)]
      obtain ⟨o, g1, g2⟩ := h5 s hs
      rw [← g2 (by omega)]
      exact g1.move hmv
end
end Go.Proofs.Ytpabbhhaagfoeaa
end
