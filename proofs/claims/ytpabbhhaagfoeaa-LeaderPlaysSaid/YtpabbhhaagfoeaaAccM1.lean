/- Texts laid as one: Acc3, Acc4, Acc5, Acc6. -/
import Derived.Test.YtpabbhhaagfoeaaAcc2
import Derived.Test.YtpabbhhaagfoeaaKMapD
import Derived.Test.YtpabbhhaagfoeaaClone
import Derived.Test.YtpabbhhaagfoeaaSrtE
import Derived.Test.YtpabbhhaagfoeaaKT
import Derived.Deep.RegionHeld
import Derived.Deep.CutRange

section
/- Package acceptor: where an acceptor lies; late, copied, New, Promised, Low. -/
namespace Go.Proofs.Ytpabbhhaagfoeaa
set_option maxRecDepth 100000
open Go.RowKit Go.Maps
set_option linter.unusedVariables false
set_option linter.unusedSimpArgs false

/-- What a call of an acceptor may write: blocks behind W0 that aren't X's. -/
def AM (W0 : World) (X : Nat → Prop) (k : Nat) : Prop := W0.heap.size ≤ k ∧ ¬ X k
/-- X, and what is new. -/
def XN (X : Nat → Prop) (W W' : World) (k : Nat) : Prop := X k ∨ (W.heap.size ≤ k ∧ k < W'.heap.size)
/-- A vote as the map has it. -/
structure VotAt (W : World) (F : Nat → Prop) (o : Option PVt) (u : Option Value) : Prop where
  none_ : o = none → u = none
  some_ : ∀ v, o = some v → ∃ A c, u = some (.agg #[.int .u64 (v.slot : Int), .int .u64 (v.bal : Int), .slice A v.val.length c]) ∧ Sl W A c (bts v.val) ∧ (bts v.val ≠ [] → ∀ a, A = some a → F a.block) ∧ v.val.length ≤ 100000
/-- The votes: no map, or one by the slots. -/
def MapV (W0 W : World) (X : Nat → Prop) (b : Nat) (L : List PVt) (T : Nat) (mv : Value) : Prop :=
  (mv = .map none ∧ L = []) ∨ ∃ mb n f, mv = .map (some mb) ∧ KMap Try.prog 28 W mb n f ∧ n ≤ T ∧ W0.heap.size ≤ mb ∧ ¬ X mb ∧ ∀ s : Nat, s < 18446744073709551616 → VotAt W (fun k => W0.heap.size ≤ k ∧ ¬ X k ∧ k ≠ b ∧ k ≠ mb ∧ k < W.heap.size) (lookV L s) (f (.int .u64 (s : Int)))
section
variable {W0 W W' : World} {X S Y : Nat → Prop} {b T : Nat} {a : PAc} {L : List PVt} {mv : Value}
theorem VotAt.mods {F F' : Nat → Prop} {o : Option PVt} {u : Option Value} (h : VotAt W F o u) (hm : Mods S W W') (hS : ∀ k, F k → ¬ S k) (hF : ∀ k, F k → F' k) : VotAt W' F' o u :=
  ⟨h.none_, fun v hv => by
    obtain ⟨A, c, h1, h2, h3, h4⟩ := h.some_ v hv
    exact ⟨A, c, h1, h2.mods' hm (fun hne a ha hs => hS _ (h3 hne a ha) hs), fun hne a ha => hF _ (h3 hne a ha), h4⟩⟩
/-- What is written lies elsewhere. -/
theorem MapV.mods (h : MapV W0 W X b L T mv) (hm : Mods S W W') (hS : ∀ k, W0.heap.size ≤ k → ¬ X k → k ≠ b → ¬ S k) (hmb : ∀ k, mv = .map (some k) → ¬ S k) : MapV W0 W' X b L T mv := by
  rcases h with h | ⟨mb, n, f, rfl, h1, h2, h3, h4, h5⟩
  · exact .inl h
  · exact .inr ⟨mb, n, f, rfl, h1.mods hm (hmb _ rfl), h2, h3, h4, fun s hs => (h5 s hs).mods hm (fun k hk => hS k hk.1 hk.2.1 hk.2.2.1) (fun k hk => ⟨hk.1, hk.2.1, hk.2.2.1, hk.2.2.2.1, Nat.lt_of_lt_of_le hk.2.2.2.2 hm.size⟩)⟩
end
/-- A result that is a struct. -/
theorem results_rowA {P : Program} {fn : Func} {p : Tmp} {T1 : TypeId} (h : fn.results = #[.cell p T1]) (tmps : Array Value) (w : World) {g1 : Nat} {t1 : TypeId} {cs1 : Array Value} {D1 : TypeDesc}
    (e1 : tmps.getD p undef = .pointer (some ⟨g1, 0, none⟩)) (b1 : Blk w g1 t1 cs1)
    (u1 : P.underlying T1 = some D1) (q1 : (match D1 with | .struct _ | .array _ _ => true | _ => false) = true) (i1 : (P.info? T1).map (·.size) = some cs1.size) :
    (results fn tmps).run P w = .ok (.agg cs1) w := by
  have r1 := run_loadVar_row (P := P) w g1 t1 T1 cs1 (0, 0) D1 b1 u1 q1 i1
  have e1' : tmps[p]?.getD undef = .pointer (some ⟨g1, 0, none⟩) := by simpa using e1
  simp [results, h, e1', asAddr, r1]
theorem infoVtP : (Try.prog.info? 49).map (·.size) = some 3 := by kernel_rfl
/-- A vote with bytes of its own. -/
def CopT (w : World) (s b : Int) (xs : List UInt8) (n : Nat) (e : Ending) (w' : World) : Prop :=
  ∃ A c, e = .returned (.agg #[.int .u64 s, .int .u64 b, .slice A n c]) ∧ Sl w' A c (bts xs) ∧ (bts xs ≠ [] → ∀ a, A = some a → w.heap.size ≤ a.block ∧ a.block < w'.heap.size ∧ ∃ cs, Blk w' a.block 5 cs) ∧ Mods Nil w w'
/-! Of nil. -/
end Go.Proofs.Ytpabbhhaagfoeaa
end

section
/- Package acceptor: Accept. -/
namespace Go.Proofs.Ytpabbhhaagfoeaa
set_option maxRecDepth 100000
open Go.RowKit Go.Maps
set_option linter.unusedVariables false
set_option linter.unusedSimpArgs false
/-- The votes by a map that is there. -/
def MapH (W0 W : World) (X : Nat → Prop) (b : Nat) (L : List PVt) (T mb : Nat) : Prop :=
  ∃ n f, KMap Try.prog 28 W mb n f ∧ n ≤ T ∧ W0.heap.size ≤ mb ∧ ¬ X mb ∧ ∀ s : Nat, s < 18446744073709551616 → VotAt W (fun k => W0.heap.size ≤ k ∧ ¬ X k ∧ k ≠ b ∧ k ≠ mb ∧ k < W.heap.size) (lookV L s) (f (.int .u64 (s : Int)))
theorem MapH.v {W0 W : World} {X : Nat → Prop} {b : Nat} {L : List PVt} {T mb : Nat} (h : MapH W0 W X b L T mb) : MapV W0 W X b L T (.map (some mb)) := by
  obtain ⟨n, f, h⟩ := h
  exact .inr ⟨mb, n, f, rfl, h⟩
theorem MapH.mods {W0 W W' : World} {X S : Nat → Prop} {b : Nat} {L : List PVt} {T mb : Nat} (h : MapH W0 W X b L T mb) (hm : Mods S W W') (hS : ∀ k, W0.heap.size ≤ k → ¬ X k → k ≠ b → ¬ S k) (hmb : mb ≠ b) : MapH W0 W' X b L T mb := by
  obtain ⟨n, f, h1, h2, h3, h4, h5⟩ := h
  exact ⟨n, f, h1.mods hm (hS mb h3 h4 hmb), h2, h3, h4, fun s hs => (h5 s hs).mods hm (fun k hk => hS k hk.1 hk.2.1 hk.2.2.1) (fun k hk => ⟨hk.1, hk.2.1, hk.2.2.1, hk.2.2.2.1, Nat.lt_of_lt_of_le hk.2.2.2.2 hm.size⟩)⟩
theorem lookV_nil (s : Nat) : lookV [] s = none := rfl
/-- A map that was made. -/
theorem MapH.made {W0 W : World} {X : Nat → Prop} {b : Nat} (T : Nat) (h0 : W0.heap.size ≤ W.heap.size) (hX : ∀ k, X k → k < W.heap.size) : MapH W0 (W.alloc (.map #[] 0)) X b [] T W.heap.size :=
  ⟨0, _, KMap.made W Try.prog 28, Nat.zero_le _, h0, fun h => by have := hX _ h; omega, fun s hs => ⟨fun _ => rfl, fun v hv => by rw [lookV_nil] at hv; cases hv⟩⟩
theorem keyUL {k : TypeId} (hk : Try.prog.underlying k = some (.int .u64)) {s : Nat} (hs : s < 18446744073709551616) : keyOf Try.prog k (.int .u64 (s : Int)) = some (.int .u64 (s : Int)) := keyU hk ⟨by omega, by omega⟩
/-- A vote is laid. -/
theorem MapH.put {W0 W : World} {X : Nat → Prop} {b : Nat} {L : List PVt} {T mb : Nat} (h : MapH W0 W X b L T mb) (hr : riseV L) (hmb : mb ≠ b) {v : PVt} (hv : v.slot < 18446744073709551616) (hT : T ≤ 1000) {A : Option Addr} {c n : Nat} (hn : v.val.length = n) (hn2 : n ≤ 100000) (hs : Sl W A c (bts v.val))
    (hA : bts v.val ≠ [] → ∀ a, A = some a → W0.heap.size ≤ a.block ∧ ¬ X a.block ∧ a.block ≠ b ∧ a.block ≠ mb ∧ a.block < W.heap.size) :
    ∃ W', (Instr.mapUpdate 87 (.map (some mb)) (.int .u64 (v.slot : Int)) (.agg #[.int .u64 (v.slot : Int), .int .u64 (v.bal : Int), .slice A n c])).run Try.prog W = .ok () W' ∧ MapH W0 W' X b (insV v L) (T + 1) mb ∧ Mods (fun i => i = mb) W W' := by
  subst hn
  obtain ⟨m, f, h1, h2, h3, h4, h5⟩ := h
  obtain ⟨W', r, ⟨k, k1, k2, k3⟩, hm⟩ := h1.put (int_keyed Try.underlying28) Try.underlying87 (keyUL Try.underlying28 hv) (by unfold maxLen; omega) (.agg #[.int .u64 (v.slot : Int), .int .u64 (v.bal : Int), .slice A v.val.length c])
  refine ⟨W', r, ⟨k, _, k1, by omega, h3, h4, fun s hs2 => ?_⟩, hm⟩
  rw [lookV_ins v hr s]
  have hF : ∀ q, (W0.heap.size ≤ q ∧ ¬ X q ∧ q ≠ b ∧ q ≠ mb ∧ q < W.heap.size) → (W0.heap.size ≤ q ∧ ¬ X q ∧ q ≠ b ∧ q ≠ mb ∧ q < W'.heap.size) := fun q hq => ⟨hq.1, hq.2.1, hq.2.2.1, hq.2.2.2.1, Nat.lt_of_lt_of_le hq.2.2.2.2 hm.size⟩
  by_cases he : s = v.slot
  · subst he
    rw [if_pos rfl]
    refine ⟨fun h => (by cases h), fun u hu => ?_⟩
    injection hu with hu
    subst hu
    exact ⟨A, c, updK_same _ _ _, hs.mods' hm (fun hne a ha h => (hA hne a ha).2.2.2.1 h), fun hne a ha => hF _ (hA hne a ha), hn2⟩
  · rw [if_neg he]
    have hne : (Value.int .u64 (s : Int)) ≠ .int .u64 (v.slot : Int) := fun e => by injection e with _ e; exact he (by omega)
    have := (h5 s hs2).mods hm (fun q hq => hq.2.2.2.1) hF
    refine ⟨fun h => ?_, fun u hu => ?_⟩
    · rw [updK_ne hne]; exact this.none_ h
    · rw [updK_ne hne]; exact this.some_ u hu
theorem votes_some (mb : Nat) (w : World) : (binOp .eql 87 (.map (some mb)) (.map none)).run Try.prog w = .ok (.bool false) w := by kernel_rfl
theorem votes_nil (w : World) : (binOp .eql 87 (.map none) (.map none)).run Try.prog w = .ok (.bool true) w := by kernel_rfl
attribute [local go_sem] votes_nil votes_some
theorem KMap.ne_blk {P : Program} {k : TypeId} {w : World} {m n g : Nat} {f : Value → Option Value} {t : TypeId} {cs : Array Value} (h : KMap P k w m n f) (hb : Blk w g t cs) : m ≠ g := by
  rintro rfl
  obtain ⟨es, cl, h1⟩ := h.isMap
  unfold Blk at hb
  rw [h1] at hb
  cases hb
/-- Bytes lie in no acceptor's own block. -/
theorem bytes_off {w : World} {b : Nat} {t : TypeId} {x y : Int} {mv : Value} {A : Option Addr} {c : Nat} {xs : List UInt8} (hb : Blk w b t #[.int .u64 x, .int .u64 y, mv]) (hm : ∀ k z, mv ≠ .int k z) (hs : Sl w A c (bts xs)) : bts xs ≠ [] → Off (fun k => k = b) A := by
  intro hne ad had he
  subst had
  have hlen : 0 < (bts xs).length := List.length_pos_iff.2 hne
  obtain ⟨blk, off, e, _, hc⟩ := hs.has.at_ hlen
  injection e with e
  subst e
  replace he : blk = b := he
  subst he
  obtain ⟨z, hz⟩ : ∃ z, (bts xs)[0]? = some (.int .u8 z) := by
    cases xs with
    | nil => simp [bts] at hlen
    | cons q r => exact ⟨(q.toNat : Int), by simp [bts]⟩
  have h1 := hc 0 _ hz
  rw [Nat.add_zero, hb.cell off] at h1
  match off, h1 with
  | 0, h1 => simp at h1
  | 1, h1 => simp at h1
  | 2, h1 => simp at h1; exact hm _ _ h1
  | n + 3, h1 => simp at h1
end Go.Proofs.Ytpabbhhaagfoeaa
end

section
/- Package acceptor: Voted; what is looked up. -/
namespace Go.Proofs.Ytpabbhhaagfoeaa
set_option maxRecDepth 100000
open Go.RowKit Go.Maps
set_option linter.unusedVariables false
set_option linter.unusedSimpArgs false
theorem zeroVt (w : World) : (zeroValue 49).run Try.prog w = .ok (.agg #[.int .u64 0, .int .u64 0, .slice none 0 0]) w := by kernel_rfl
theorem look_none (k : Value) (w : World) : (Instr.lookup 87 (.map none) k true).run Try.prog w = .ok (.tuple #[.agg #[.int .u64 0, .int .u64 0, .slice none 0 0], .bool false]) w := by kernel_rfl
section
variable {W0 W W' : World} {X S Y : Nat → Prop} {b T : Nat} {a : PAc} {L : List PVt} {mv : Value}
/-- What the map says of a slot. -/
theorem MapV.look (h : MapV W0 W X b L T mv) {s : Nat} (hs : s < 18446744073709551616) : ∃ (q : VtP) (r : Bool), (∀ V, Mods Nil W V → (Instr.lookup 87 mv (.int .u64 (s : Int)) true).run Try.prog V = .ok (.tuple #[.agg #[.int .u64 (q.slot : Int), .int .u64 (q.bal : Int), .slice q.A q.val.length q.c], .bool r]) V) ∧
    (r = true → ∀ V, Mods Nil W V → (Instr.lookup 87 mv (.int .u64 (s : Int)) false).run Try.prog V = .ok (.agg #[.int .u64 (q.slot : Int), .int .u64 (q.bal : Int), .slice q.A q.val.length q.c]) V) ∧ Sl W q.A q.c (bts q.val) ∧ q.val.length ≤ 100000 ∧ r = (lookV L s).isSome ∧ (∀ v, lookV L s = some v → q.plain = v) := by
  rcases h with ⟨rfl, rfl⟩ | ⟨mb, n, f, rfl, h1, h2, h3, h4, h5⟩
  · refine ⟨⟨0, 0, none, 0, []⟩, false, fun V _ => look_none _ V, fun h => (by cases h), Sl.none_ _, Nat.zero_le _, rfl, fun v hv => by rw [lookV_nil] at hv; cases hv⟩
  · have hv := h5 s hs
    cases hl : lookV L s with
    | none =>
      refine ⟨⟨0, 0, none, 0, []⟩, false, fun V hV => ?_, fun h => (by cases h), Sl.none_ _, Nat.zero_le _, rfl, fun v hv => (by cases hv)⟩
      exact (h1.mods hV (fun h => h)).miss (int_keyed Try.underlying28) Try.underlying87 (keyUL Try.underlying28 hs) (hv.none_ hl) (zeroVt V)
    | some v =>
      obtain ⟨A, c, e, hsl, _, hle⟩ := hv.some_ v hl
      have hk : ∀ V, Mods Nil W V → _ := fun V hV => (h1.mods hV (fun h => h)).look (int_keyed Try.underlying28) Try.underlying87 (keyUL Try.underlying28 hs) e (zeroVt V)
      exact ⟨⟨v.slot, v.bal, A, c, v.val⟩, true, fun V hV => (hk V hV).1, fun _ V hV => (hk V hV).2, hsl, hle, rfl, fun u hu => by injection hu⟩
end
end Go.Proofs.Ytpabbhhaagfoeaa
end

section
/- Package acceptor: Forget. -/
namespace Go.Proofs.Ytpabbhhaagfoeaa
set_option maxRecDepth 100000
open Go.RowKit Go.Maps
set_option linter.unusedVariables false
section
variable {wr W1 w2 w3 : World} {b mb r n s cnt cnt' : Nat} {lowc : Array Value} {f : Value → Option Value} {left : Lit → Bool} {D : DataW Value}
end
section
variable {W0 W W' : World} {X S Y : Nat → Prop} {b T : Nat} {a : PAc} {L : List PVt} {mv : Value}
end
end Go.Proofs.Ytpabbhhaagfoeaa
end
