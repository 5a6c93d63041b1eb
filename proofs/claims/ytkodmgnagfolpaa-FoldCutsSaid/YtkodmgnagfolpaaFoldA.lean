/- Texts laid as one: Fold3, Fold4, Fold5, Fold6, Fold7. -/
import Derived.Test.YtkodmgnagfolpaaFoldP
import Derived.Test.YtkodmgnagfolpaaKMap
import Derived.Test.YtkodmgnagfolpaaVec4
import Derived.Test.YtkodmgnagfolpaaArrM
import Derived.DeepKeys4
import Derived.Test.YtkodmgnagfolpaaQK
import Derived.Test.YtkodmgnagfolpaaVec2
import Derived.Test.YtkodmgnagfolpaaVec6
import Derived.Test.YtkodmgnagfolpaaHW
import Derived.Test.YtkodmgnagfolpaaKT

section
/- Package fold: a state in memory: where it lies, what of it a call may write. -/
namespace Go.Proofs.Ytkodmgnagfolpaa
set_option maxRecDepth 100000
open Go.RowKit Go.Maps
set_option linter.unusedVariables false
set_option linter.unusedSimpArgs false

/-! Who asked. -/
def ask (a b : Nat) : Value := .agg #[.int .u64 (a : Int), .int .u64 (b : Int)]
theorem ask_inj {a b c d : Nat} (h : ask a b = ask c d) : a = c ∧ b = d := by
  unfold ask at h
  simp only [Value.agg.injEq, Array.mk.injEq, List.cons.injEq, Value.int.injEq, true_and, and_true] at h
  omega
theorem ask_laid : laidOutB Try.prog = true := by kernel_rfl
theorem ask_row : (62 : TypeId) < Try.prog.types.size := of_decide_eq_true (by kernel_rfl)
theorem ask_wide : (match Try.prog.underlying 62 with | some (.array _ _) | some (.struct _) => true | _ => false) = true := by rw [Try.underlying62]
theorem ask_law : Keyed Try.prog 62 := Keyed.of_law (deep_law_laid ask_laid (m := 2) (by omega) ask_row (by kernel_rfl) ask_wide)
theorem ask_type : Try.prog.keyType 62 = true := by kernel_rfl
theorem ask_cells : Try.prog.cellsOf 62 = 2 := by kernel_rfl
theorem u64_cells : Try.prog.cellsOf 27 = 1 := by kernel_rfl
theorem u64_wf {x : Nat} (h : x < 18446744073709551616) : (Lit.int .u64 (x : Int)).wf = true := by
  simp only [Lit.wf, Bool.and_eq_true, decide_eq_true_eq]
  have h1 : IntKind.u64.min = 0 := by decide
  have h2 : IntKind.u64.max = 18446744073709551615 := by decide
  omega
theorem ask_key {a b : Nat} (ha : a < 18446744073709551616) (hb : b < 18446744073709551616) : ∃ l, keyOf Try.prog 62 (ask a b) = some l := by
  have hf : (ask a b).formed Try.prog 62 = true := by simp [ask, Value.formed, Try.underlying62, ask_cells]
  have hs : ∃ m, Try.prog.types.size + 1 = m + 2 := ⟨Try.prog.types.size - 1, by have h0 : 0 < Try.prog.types.size := of_decide_eq_true (by kernel_rfl); omega⟩
  obtain ⟨m, hm⟩ := hs
  have w1 := u64_wf ha
  have w2 := u64_wf hb
  have hl : ∃ ls, Try.prog.keyLits (Try.prog.types.size + 1) 62 (ask a b).cells.toList = some ls := by
    rw [hm]
    simp [Program.keyLits, Try.underlying62, Try.underlying27, ask, Value.cells, ask_cells, u64_cells, w1, w2]
  obtain ⟨ls, hl⟩ := hl
  unfold keyOf
  rw [Try.underlying62]
  simp only [ask_type, hf, Bool.and_self, if_true, hl, Option.map_some]
  exact ⟨_, rfl⟩

/-! Where a state lies. -/
structure FA where
  b : Nat
  m1 : Nat
  m2 : Nat
  sp : Value
  /-- Blocks that hold no lengths of a shard's. -/
  Y : Nat → Prop := fun _ => False
def FS (f : FA) (k : Nat) : Prop := k = f.b ∨ k = f.m1 ∨ k = f.m2 ∨ f.sp.ownBlock = some k
def cellsP (p : PP) : List Value := [.int .u64 (p.pos : Int), .int .i64 p.sh, .int .i64 (p.seg : Int), .int .u64 (p.off : Int), .int .u64 (p.many : Int)]
def rowP : List PP → List Value
  | [] => []
  | p :: l => cellsP p ++ rowP l
theorem rowP_append : ∀ a b : List PP, rowP (a ++ b) = rowP a ++ rowP b
  | [], b => rfl
  | p :: a, b => by simp [rowP, rowP_append a b]
theorem rowP_length : ∀ l : List PP, (rowP l).length = l.length * 5
  | [] => rfl
  | p :: l => by simp [rowP, rowP_length l, cellsP]; omega
theorem rowP_get : ∀ {l : List PP} {i : Nat} (h : i < l.length) {j : Nat}, j < 5 → (rowP l)[i * 5 + j]? = (cellsP l[i])[j]?
  | p :: l, 0, h, j, hj => by
    rw [rowP, List.getElem?_append_left (by simp [cellsP]; omega)]
    simp
  | p :: l, i + 1, h, j, hj => by
    rw [rowP, List.getElem?_append_right (by simp [cellsP]; omega)]
    have := rowP_get (l := l) (i := i) (by simpa using h) hj
    simp only [cellsP, List.length_cons, List.length_nil, List.getElem_cons_succ] at this ⊢
    rw [← this]
    congr 1
    omega
theorem rowP_one : ∀ (l : List PP), ∀ u ∈ rowP l, u.oneCell' = true
  | [], u, h => by cases h
  | p :: l, u, h => by
    rcases List.mem_append.1 h with h | h
    · simp [cellsP] at h
      rcases h with rfl | rfl | rfl | rfl | rfl <;> rfl
    · exact rowP_one l u h
def shV (i : Int) (h : PH) (A : Option Addr) (n c : Nat) : Value := .agg #[.int .i64 i, .int .i64 h.segs, .slice A n c, .bool h.final]
/-- What the map of shards has at a number. -/
def ShG (w : World) (Y : Nat → Prop) (i : Int) : Option PH → Option Value → Prop
  | none, g => g = none
  | some h, g => ∃ A n c, g = some (shV i h A n c) ∧ h.lens.length = n ∧ w.ownsRow 0 27 1 (.slice A n c) n (nums h.lens) ∧ ∀ k, (Value.slice A n c).ownBlock = some k → ¬ Y k
structure StAt (w : World) (f : FA) (s : PF) (T : Nat) : Prop where
  blk : Blk w f.b 60 #[.map (some f.m1), f.sp, .int .u64 (s.low : Int), .map (some f.m2)]
  spans : w.ownsRow 0 47 5 f.sp s.L.length (rowP s.L)
  shards : ∃ n g, IMap Try.prog 3 w f.m1 n g ∧ n ≤ T ∧ ∀ i, in64 i → ShG w f.Y i (s.sh i) (g i)
  told : ∃ n g, KMap Try.prog 62 w f.m2 n g ∧ n ≤ T ∧ ∀ a b, g (ask a b) = (s.told a b).map (Value.int .i64)
  ne : f.m1 ≠ f.m2
  old : ∀ k, f.Y k → k < w.heap.size
theorem isMap_blk {w : World} {g k : Nat} {t : TypeId} {cs : Array Value} (h : ∃ es c, w.heap[k]? = some (.map es c)) (hb : Blk w g t cs) : k ≠ g := by
  rintro rfl
  obtain ⟨es, c, h⟩ := h
  unfold Blk at hb
  rw [h] at hb
  cases hb
theorem isMap_own {w : World} {base k n size : Nat} {e : TypeId} {v : Value} {xs : List Value} (h : ∃ es c, w.heap[k]? = some (.map es c)) (ho : w.ownsRow base e size v n xs) : v.ownBlock ≠ some k := by
  rcases ho.2 with ⟨rfl, _⟩ | ⟨g', cap, cur, rfl, _, hh, _⟩
  · simp [Value.ownBlock]
  · intro he
    simp [Value.ownBlock] at he
    exact isMap_blk h hh he.symm
section
variable {w w' : World} {f : FA} {s : PF} {T : Nat} {S : Nat → Prop}
theorem StAt.map1 (h : StAt w f s T) : ∃ es c, w.heap[f.m1]? = some (.map es c) := by obtain ⟨_, _, h, _⟩ := h.shards; exact h.isMap
theorem StAt.map2 (h : StAt w f s T) : ∃ es c, w.heap[f.m2]? = some (.map es c) := by obtain ⟨_, _, h, _⟩ := h.told; exact h.isMap
theorem own_lt {base k n size : Nat} {e : TypeId} {v : Value} {xs : List Value} (ho : w.ownsRow base e size v n xs) (hk : v.ownBlock = some k) : k < w.heap.size := by
  rcases ho.2 with ⟨rfl, _⟩ | ⟨g', cap, cur, rfl, _, hh, _⟩
  · simp [Value.ownBlock] at hk
  · simp [Value.ownBlock] at hk
    subst hk
    exact Blk.lt (w := w) hh
theorem StAt.lt (h : StAt w f s T) : ∀ k, FS f k → k < w.heap.size := by
  obtain ⟨_, _, h1, _⟩ := h.shards
  obtain ⟨_, _, h2, _⟩ := h.told
  rintro k (rfl | rfl | rfl | hk)
  · exact h.blk.lt
  · exact h1.lt
  · exact h2.lt
  · exact own_lt h.spans hk
/-- No block of numbers is one of the state's. -/
theorem StAt.nums_off (h : StAt w f s T) {base n size : Nat} {v : Value} {xs : List Value} (ho : w.ownsRow base 27 size v n xs) : ∀ k, v.ownBlock = some k → ¬ FS f k := by
  intro k hk hf
  rcases hf with rfl | rfl | rfl | hs
  · exact own_blk_ne ho h.blk (by decide) hk
  · exact isMap_own h.map1 ho hk
  · exact isMap_own h.map2 ho hk
  · exact own_own_ne ho h.spans (by decide) hk hs
theorem ShG.mods {Y : Nat → Prop} {i : Int} {o : Option PH} {g : Option Value} (h : ShG w Y i o g) (hm : Mods S w w') (hS : ∀ {base n size : Nat} {v : Value} {xs : List Value}, w.ownsRow base 27 size v n xs → ∀ k, v.ownBlock = some k → ¬ S k) : ShG w' Y i o g := by
  cases o with
  | none => exact h
  | some q =>
    obtain ⟨A, n, c, h1, h2, h3, h4⟩ := h
    exact ⟨A, n, c, h1, h2, own_mods h3 hm (hS h3), h4⟩
theorem ShG.modsY {Y : Nat → Prop} {i : Int} {o : Option PH} {g : Option Value} (h : ShG w Y i o g) (hm : Mods S w w') (hS : ∀ k, S k → Y k) {Z : Nat → Prop} (hZ : ∀ k, Z k → Y k ∨ w.heap.size ≤ k) : ShG w' Z i o g := by
  cases o with
  | none => exact h
  | some q =>
    obtain ⟨A, n, c, h1, h2, h3, h4⟩ := h
    refine ⟨A, n, c, h1, h2, own_mods h3 hm (fun k hk hs => h4 k hk (hS k hs)), fun k hk hz => ?_⟩
    rcases hZ k hz with h | h
    · exact h4 k hk h
    · have := (h3.lt k hk).2; omega
/-- A state is as it was, if none of its blocks was written, and no block of numbers. -/
theorem StAt.mods (h : StAt w f s T) (hm : Mods S w w') (hS : ∀ k, S k → ¬ FS f k) (hU : ∀ {base n size : Nat} {v : Value} {xs : List Value}, w.ownsRow base 27 size v n xs → ∀ k, v.ownBlock = some k → ¬ S k) : StAt w' f s T := by
  obtain ⟨n1, g1, h1, h1n, h1s⟩ := h.shards
  obtain ⟨n2, g2, h2, h2n, h2s⟩ := h.told
  exact ⟨h.blk.mods hm (fun hs => hS _ hs (.inl rfl)), own_mods h.spans hm (fun k hk hs => hS _ hs (.inr (.inr (.inr hk)))),
    ⟨n1, g1, h1.mods hm (fun hs => hS _ hs (.inr (.inl rfl))), h1n, fun i hi => (h1s i hi).mods hm hU⟩,
    ⟨n2, g2, h2.mods hm (fun hs => hS _ hs (.inr (.inr (.inl rfl)))), h2n, h2s⟩, h.ne, fun k hk => Nat.lt_of_lt_of_le (h.old k hk) hm.size⟩
/-- Blocks that hold no lengths of a shard's may change. -/
theorem StAt.modsY (h : StAt w f s T) (hm : Mods S w w') (hS : ∀ k, S k → f.Y k) (hF : ∀ k, S k → ¬ FS f k) {Z : Nat → Prop} (hZ : ∀ k, Z k → (f.Y k ∨ w.heap.size ≤ k) ∧ k < w'.heap.size) : StAt w' { f with Y := Z } s T := by
  obtain ⟨n1, g1, h1, h1n, h1s⟩ := h.shards
  obtain ⟨n2, g2, h2, h2n, h2s⟩ := h.told
  exact ⟨h.blk.mods hm (fun hs => hF _ hs (.inl rfl)), own_mods h.spans hm (fun k hk hs => hF _ hs (.inr (.inr (.inr hk)))),
    ⟨n1, g1, h1.mods hm (fun hs => hF _ hs (.inr (.inl rfl))), h1n, fun i hi => (h1s i hi).modsY hm hS (fun k hk => (hZ k hk).1)⟩,
    ⟨n2, g2, h2.mods hm (fun hs => hF _ hs (.inr (.inr (.inl rfl)))), h2n, h2s⟩, h.ne, fun k hk => (hZ k hk).2⟩
theorem StAt.nil (h : StAt w f s T) (hm : Mods Nil w w') : StAt w' f s T := h.mods hm (fun _ h => h.elim) (fun _ _ _ h => h)
theorem StAt.mono (h : StAt w f s T) {T' : Nat} (hT : T ≤ T') : StAt w f s T' := by
  obtain ⟨n1, g1, h1, h1n, h1s⟩ := h.shards
  obtain ⟨n2, g2, h2, h2n, h2s⟩ := h.told
  exact ⟨h.blk, h.spans, ⟨n1, g1, h1, by omega, h1s⟩, ⟨n2, g2, h2, by omega, h2s⟩, h.ne, h.old⟩
/-- Another state, of which no block is one of this one's. -/
def FA.apart (f f' : FA) : Prop := ∀ k, FS f k → ¬ FS f' k
theorem StAt.other (h : StAt w f s T) {f' : FA} {s' : PF} {T' : Nat} (h' : StAt w f' s' T') (ha : f'.apart f) (hm : Mods (FS f') w w') : StAt w' f s T :=
  h.mods hm (fun k hk => ha k hk) (fun ho k hk => h'.nums_off ho k hk)
/-- What a call that writes leaves: where the state lies then. -/
def FA.next (w : World) (f f' : FA) : Prop := f'.b = f.b ∧ (∀ k, FS f' k → FS f k ∨ w.heap.size ≤ k) ∧ f'.Y = f.Y
theorem FA.next.refl (w : World) (f : FA) : FA.next w f f := ⟨rfl, fun k h => .inl h, rfl⟩
theorem FA.next.trans {f f1 f2 : FA} (h : FA.next w f f1) (h2 : FA.next w' f1 f2) (hs : w.heap.size ≤ w'.heap.size) : FA.next w f f2 := ⟨h2.1.trans h.1, fun k hk => by
  rcases h2.2.1 k hk with h3 | h3
  · exact h.2.1 k h3
  · exact .inr (by omega), h2.2.2.trans h.2.2⟩
theorem FA.next.old {f f' : FA} {w1 : World} (h : FA.next w1 f f') (hs : w.heap.size ≤ w1.heap.size) : FA.next w f f' := ⟨h.1, fun k hk => by
  rcases h.2.1 k hk with h3 | h3
  · exact .inl h3
  · exact .inr (by omega), h.2.2⟩
theorem mods_next {f f' : FA} {w1 w2 : World} (hm : Mods (FS f) w w1) (hn : FA.next w f f') (hm2 : Mods (FS f') w1 w2) : Mods (FS f) w w2 :=
  hm.trans2 hm2 (fun i hi hf => by
    rcases hn.2.1 i hf with h | h
    · exact h
    · omega)
theorem apart_next {f f1 f' : FA} (ha : f'.apart f) (hl : ∀ k, FS f' k → k < w.heap.size) (hn : FA.next w f f1) : f'.apart f1 := fun k h1 h2 => by
  rcases hn.2.1 k h2 with h | h
  · exact ha k h1 h
  · have := hl k h1; omega
theorem FA.apart.symm {f f' : FA} (h : f.apart f') : f'.apart f := fun k h1 h2 => h k h2 h1
end
end Go.Proofs.Ytkodmgnagfolpaa
end

section
/- Package fold: New, Len, Low, open. -/
namespace Go.Proofs.Ytkodmgnagfolpaa
set_option maxRecDepth 100000
open Go.RowKit Go.Maps
set_option linter.unusedVariables false
set_option linter.unusedSimpArgs false

set_option maxHeartbeats 800000 in
theorem fnew_any (w : World) : Calls Try.prog 10 #[] w fun e w' => ∃ f : FA, e = .returned (.pointer (some ⟨f.b, 0, none⟩)) ∧ StAt w' f {} 0 ∧ (∀ k, FS f k → w.heap.size ≤ k) ∧ Mods Nil w w' := by
  have hmm := @run_makeMap Try.prog
  obtain ⟨W1, hW1⟩ : ∃ W, w.alloc (.map #[] 0) = W := ⟨_, rfl⟩
  obtain ⟨W2, hW2⟩ : ∃ W, W1.alloc (.map #[] 0) = W := ⟨_, rfl⟩
  have I1 : Hid (IMap Try.prog 3 W1 w.heap.size 0 (fun _ => none)) := by subst hW1; exact Lib.hid (IMap.made w _ _)
  have K1 : Hid (KMap Try.prog 62 W2 W1.heap.size 0 (fun _ => none)) := by subst hW2; exact Lib.hid (KMap.made W1 _ _)
  have M1 : Hid (Mods Nil w W1) := by subst hW1; exact Lib.hid ((Mods.refl Nil w).alloc _)
  have M2 : Hid (Mods Nil W1 W2) := by subst hW2; exact Lib.hid ((Mods.refl Nil W1).alloc _)
  have S1 : Hid (W1.heap.size = w.heap.size + 1) := by subst hW1; exact Lib.hid (by simp)
  have S2 : Hid (W2.heap.size = W1.heap.size + 1) := by subst hW2; exact Lib.hid (by simp)
  go_enter Try.func10, Try.ntmps10
  go_wp2_with fail
  go_ret
  have MM := (Mods.refl Nil W2).alloc (.cells #[.map (some w.heap.size), .slice none 0 0, .int .u64 0, .map (some W1.heap.size)] 60)
  refine ⟨⟨W2.heap.size, w.heap.size, W1.heap.size, .slice none 0 0, fun _ => False⟩, rfl, ⟨Blk.new W2 _ _, World.ownsRow_nil _ _ _ _, ⟨0, _, I1.out.mods (M2.out.trans MM) (fun h => h), Nat.le_refl _, fun i hi => rfl⟩, ⟨0, _, K1.out.mods MM (fun h => h), Nat.le_refl _, fun a b => rfl⟩, by have := S1.out; simp; omega, fun k hk => hk.elim⟩, ?_, (M1.out.trans M2.out).trans MM⟩
  have := S1.out
  have := S2.out
  rintro k (rfl | rfl | rfl | hk)
  · simp only; omega
  · simp only; omega
  · simp only; omega
  · simp [Value.ownBlock] at hk

theorem StAt.cells {w : World} {f : FA} {s : PF} {T : Nat} (h : StAt w f s T) :
    w.cell? ⟨f.b, 0, none⟩ = some (.map (some f.m1)) ∧ w.cell? ⟨f.b, 1, none⟩ = some f.sp ∧ w.cell? ⟨f.b, 2, none⟩ = some (.int .u64 (s.low : Int)) ∧ w.cell? ⟨f.b, 3, none⟩ = some (.map (some f.m2)) :=
  ⟨h.blk.cell 0, h.blk.cell 1, h.blk.cell 2, h.blk.cell 3⟩
set_option maxHeartbeats 800000 in
theorem flow_any {w : World} {f : FA} {s : PF} {T : Nat} (h : StAt w f s T) :
    Calls Try.prog 18 #[.pointer (some ⟨f.b, 0, none⟩)] w fun e w' => e = .returned (.int .u64 (s.low : Int)) ∧ w = w' := by
  obtain ⟨d0, d1, d2, d3⟩ := h.cells
  generalize s.low = lo at d2 ⊢
  clear h d0 d1 d3
  go_enter Try.func18, Try.ntmps18
  go_wp2_with fail
  go_ret
  exact ⟨rfl, rfl⟩
/-- What Len asks of a state. -/
structure PF.len (s : PF) : Prop where
  ok : okL s.L
  n : s.n = tot s.L
  fit : s.n < 18446744073709551616
theorem PF.good.len {s : PF} (h : s.good) : s.len := ⟨h.ok, h.n, h.fit⟩
theorem PF.len.last {s : PF} (h : s.len) {k : Nat} (hk : s.L.length = k + 1) : s.n = (s.L[k]'(by omega)).pos + (s.L[k]'(by omega)).many := by
  have h1 := tot_take_succ s.L (i := k) (by omega)
  rw [List.take_of_length_le (by omega)] at h1
  rw [h.n, h1, (h.ok k (by omega)).1]
/-- A slice's last element. -/
theorem span_at {w : World} {v : Value} {l : List PP} (h : w.ownsRow 0 47 5 v l.length (rowP l)) {i : Nat} (hi : i < l.length) :
    ∃ g c, v = .slice (some ⟨g, 0, none⟩) l.length c ∧ g < w.heap.size ∧ w.cell? ⟨g, i * 5, none⟩ = some (.int .u64 (l[i].pos : Int)) ∧ w.cell? ⟨g, i * 5 + 1, none⟩ = some (.int .i64 l[i].sh) ∧ w.cell? ⟨g, i * 5 + 2, none⟩ = some (.int .i64 (l[i].seg : Int)) ∧ w.cell? ⟨g, i * 5 + 3, none⟩ = some (.int .u64 (l[i].off : Int)) ∧ w.cell? ⟨g, i * 5 + 4, none⟩ = some (.int .u64 (l[i].many : Int)) := by
  obtain ⟨g, cap, cur, rfl, _, hg, hB, _, _, _, _, hc, _⟩ := own_place h (by omega)
  refine ⟨g, cap, rfl, hg, ?_, ?_, ?_, ?_, ?_⟩
  · exact hc _ _ (rowP_get hi (j := 0) (by omega))
  · exact hc _ _ (rowP_get hi (j := 1) (by omega))
  · exact hc _ _ (rowP_get hi (j := 2) (by omega))
  · exact hc _ _ (rowP_get hi (j := 3) (by omega))
  · exact hc _ _ (rowP_get hi (j := 4) (by omega))
theorem own_zero {w : World} {base size : Nat} {e : TypeId} {v : Value} {xs : List Value} (h : w.ownsRow base e size v 0 xs) : ∃ A c, v = .slice A 0 c := by
  rcases h.2 with ⟨rfl, _⟩ | ⟨g', cap, cur, rfl, _⟩
  · exact ⟨_, _, rfl⟩
  · exact ⟨_, _, rfl⟩
set_option maxHeartbeats 1600000 in
theorem flen_any {w : World} {f : FA} {s : PF} {T : Nat} (h : StAt w f s T) (hs : s.len) (hL : s.L.length ≤ 1000000) :
    Calls Try.prog 13 #[.pointer (some ⟨f.b, 0, none⟩)] w fun e w' => e = .returned (.int .u64 (s.n : Int)) ∧ Mods Nil w w' := by
  obtain ⟨d0, d1, d2, d3⟩ := h.cells
  by_cases h0 : s.L.length = 0
  · have hn : s.n = 0 := by rw [hs.n, List.eq_nil_of_length_eq_zero h0]; rfl
    have hsp := h.spans
    rw [h0] at hsp
    obtain ⟨A, c, hv⟩ := own_zero hsp
    rw [hv] at d1
    rw [hn]
    clear h hs hsp hv hn h0 hL d0 d2 d3
    go_enter Try.func13, Try.ntmps13
    go_wp2_with fail
    go_ret
    exact ⟨rfl, Mods.refl _ _⟩
  · obtain ⟨k, hk⟩ : ∃ k, s.L.length = k + 1 := ⟨s.L.length - 1, by omega⟩
    obtain ⟨g, c, hv, hg, c0, c1, c2, c3, c4⟩ := span_at h.spans (i := k) (by omega)
    have hlast := hs.last hk
    have hfit := hs.fit
    rw [hv, hk] at d1
    generalize (s.L[k]'(by omega)).pos = p at hlast c0
    generalize (s.L[k]'(by omega)).many = m at hlast c4
    generalize (s.L[k]'(by omega)).off = o at c3
    generalize (s.L[k]'(by omega)).seg = sg at c2
    generalize (s.L[k]'(by omega)).sh = sh at c1
    have hkI : ((k + 1 : Nat) : Int) - 1 = (k : Int) := by omega
    have hw : IntKind.u64.wrap ((p : Int) + (m : Int)) = ((p + m : Nat) : Int) := by rw [IntKind.wrap_u64]; omega
    rw [hlast]
    obtain ⟨K, hK⟩ : ∃ K, k + 1 = K := ⟨_, rfl⟩
    have hKk : decide (((K : Nat) : Int) = 0) = false := by simp; omega
    rw [hK] at d1 hkI
    have hlt : (k : Int) < (K : Int) := by omega
    have hKb : ((K : Int) == 0) = false := by rw [beq_eq_false_iff_ne]; omega
    have hw2 : IntKind.i64.wrap ((K : Int) - 1) = (k : Int) := by rw [IntKind.wrap_i64]; omega
    have hlt2 : k < K := by omega
    clear hkI
    have B := h.blk
    have e1 : ∀ V, Mods Nil w V → V.cell? ⟨f.b, 1, none⟩ = some (.slice (some ⟨g, 0, none⟩) K c) := fun V hV => (World.cell?_of_block (hV.block f.b B.lt (fun h => h))).trans d1
    have e2 : ∀ V, Mods Nil w V → V.cell? ⟨g, k * 5, none⟩ = some (.int .u64 (p : Int)) := fun V hV => (World.cell?_of_block (hV.block g hg (fun h => h))).trans c0
    have e3 : ∀ V, Mods Nil w V → V.cell? ⟨g, k * 5 + 1, none⟩ = some (.int .i64 sh) := fun V hV => (World.cell?_of_block (hV.block g hg (fun h => h))).trans c1
    have e4 : ∀ V, Mods Nil w V → V.cell? ⟨g, k * 5 + 2, none⟩ = some (.int .i64 (sg : Int)) := fun V hV => (World.cell?_of_block (hV.block g hg (fun h => h))).trans c2
    have e5 : ∀ V, Mods Nil w V → V.cell? ⟨g, k * 5 + 3, none⟩ = some (.int .u64 (o : Int)) := fun V hV => (World.cell?_of_block (hV.block g hg (fun h => h))).trans c3
    have e6 : ∀ V, Mods Nil w V → V.cell? ⟨g, k * 5 + 4, none⟩ = some (.int .u64 (m : Int)) := fun V hV => (World.cell?_of_block (hV.block g hg (fun h => h))).trans c4
    clear h hs hv hlast hfit hL d0 d2 d3 hk h0 B c0 c1 c2 c3 c4
    go_enter Try.func13, Try.ntmps13
    go_wp2_with fail
    go_region_held (fun V => Mods Nil w V) (first | assumption | with_reducible exact (Mods.refl Nil w).drew | with_reducible exact ((Mods.refl Nil w).alloc _).drew) (fail)
    go_wp2_with fail
    go_ret
    exact ⟨rfl, ((Mods.refl Nil w).drew).alloc _⟩

/-! A shard is looked up. -/
def zeroS : Value := .agg #[.int .i64 0, .int .i64 0, .slice none 0 0, .bool false]
theorem sh_zero (V : World) : (zeroValue 42).run Try.prog V = .ok zeroS V := by kernel_rfl
theorem look_shY {w : World} {f : FA} {s : PF} {T : Nat} (h : StAt w f s T) {i : Int} (hi : in64 i) {q : PH} (hq : s.sh i = some q) :
    ∃ A n c, q.lens.length = n ∧ w.ownsRow 0 27 1 (.slice A n c) n (nums q.lens) ∧ (∀ k, (Value.slice A n c).ownBlock = some k → ¬ f.Y k) ∧ ∀ V, Mods Nil w V →
      (Instr.lookup 57 (.map (some f.m1)) (.int .i64 i) true).run Try.prog V = .ok (.tuple #[shV i q A n c, .bool true]) V ∧ (Instr.lookup 57 (.map (some f.m1)) (.int .i64 i) false).run Try.prog V = .ok (shV i q A n c) V := by
  obtain ⟨n, g, h1, hn, h2⟩ := h.shards
  have h3 := h2 i hi
  rw [hq] at h3
  obtain ⟨A, n', c, h4, h5, h6, h7⟩ := h3
  refine ⟨A, n', c, h5, h6, h7, fun V hV => ?_⟩
  exact IMap.look (t := 57) (e := 42) Try.underlying3 Try.underlying57 (h1.mods hV (fun h => h)) hi h4 (sh_zero V)
theorem look_sh {w : World} {f : FA} {s : PF} {T : Nat} (h : StAt w f s T) {i : Int} (hi : in64 i) {q : PH} (hq : s.sh i = some q) :
    ∃ A n c, q.lens.length = n ∧ w.ownsRow 0 27 1 (.slice A n c) n (nums q.lens) ∧ ∀ V, Mods Nil w V →
      (Instr.lookup 57 (.map (some f.m1)) (.int .i64 i) true).run Try.prog V = .ok (.tuple #[shV i q A n c, .bool true]) V ∧ (Instr.lookup 57 (.map (some f.m1)) (.int .i64 i) false).run Try.prog V = .ok (shV i q A n c) V := by
  obtain ⟨A, n, c, h1, h2, -, h3⟩ := look_shY h hi hq
  exact ⟨A, n, c, h1, h2, h3⟩
theorem miss_sh {w : World} {f : FA} {s : PF} {T : Nat} (h : StAt w f s T) {i : Int} (hi : in64 i) (hq : s.sh i = none) :
    ∀ V, Mods Nil w V → (Instr.lookup 57 (.map (some f.m1)) (.int .i64 i) true).run Try.prog V = .ok (.tuple #[zeroS, .bool false]) V := by
  obtain ⟨n, g, h1, hn, h2⟩ := h.shards
  have h3 := h2 i hi
  rw [hq] at h3
  exact fun V hV => IMap.miss (t := 57) (e := 42) Try.underlying3 Try.underlying57 (h1.mods hV (fun h => h)) hi h3 (sh_zero V)
set_option maxHeartbeats 1600000 in
theorem fopen_any {w : World} {f : FA} {s : PF} {T : Nat} (h : StAt w f s T) {i : Int} (hi : in64 i) :
    Calls Try.prog 48 #[.pointer (some ⟨f.b, 0, none⟩), .int .i64 i] w fun e w' => e = .returned (.int .i64 (liveE s i)) ∧ Mods Nil w w' := by
  obtain ⟨d0, d1, d2, d3⟩ := h.cells
  cases hq : s.sh i with
  | none =>
    have hl : liveE s i = 30 := by unfold liveE; rw [hq]
    have l1 := miss_sh h hi hq w (Mods.refl _ _)
    rw [hl]
    unfold zeroS at l1
    clear h hi d1 d2 d3 hq hl
    go_enter Try.func48, Try.ntmps48
    go_wp2_with fail
    go_ret
    exact ⟨rfl, (Mods.refl Nil w).alloc _⟩
  | some q =>
    obtain ⟨A, n, c, hn, ho, hlk⟩ := look_sh h hi hq
    have l1 := (hlk w (Mods.refl _ _)).1
    have hl : liveE s i = if q.final = true then 34 else 0 := by unfold liveE; rw [hq]
    rw [hl]
    unfold shV at l1
    obtain ⟨sg, hsg⟩ : ∃ sg, q.segs = sg := ⟨_, rfl⟩
    rw [hsg] at l1
    cases hf : q.final with
    | false =>
      rw [hf] at l1
      clear h hi d1 d2 d3 hq hl hn ho hlk hf hsg
      go_enter Try.func48, Try.ntmps48
      go_wp2_with fail
      go_ret
      exact ⟨rfl, (Mods.refl Nil w).alloc _⟩
    | true =>
      rw [hf] at l1
      clear h hi d1 d2 d3 hq hl hn ho hlk hf hsg
      go_enter Try.func48, Try.ntmps48
      go_wp2_with fail
      go_ret
      exact ⟨rfl, (Mods.refl Nil w).alloc _⟩
end Go.Proofs.Ytkodmgnagfolpaa
end

section
/- Package fold: fresh. -/
namespace Go.Proofs.Ytkodmgnagfolpaa
set_option maxRecDepth 100000
open Go.RowKit Go.Maps
set_option linter.unusedVariables false
set_option linter.unusedSimpArgs false

/-- What a shard's lens are; none, if there is no such shard. -/
def lensO (s : PF) (i : Int) : List Nat := match s.sh i with | some h => h.lens | none => []
theorem lensO_some {s : PF} {i : Int} {h : PH} (hs : s.sh i = some h) : lensO s i = h.lens := by unfold lensO; rw [hs]
def RFresh (w : World) (s : PF) (r : PW) (e : Ending) (w' : World) : Prop :=
  (rowE s r ≠ 0 → e = .returned (.tuple #[.slice none 0 0, .int .i64 (rowE s r)])) ∧ (rowE s r = 0 → ∃ v, e = .returned (.tuple #[v, .int .i64 0]) ∧ CutRow w w' (fun g => vat r.lens g - vat (lensO s r.shard) g) v) ∧ Mods Nil w w'
theorem CutRow.base {w w1 w' : World} {g : Nat → Nat} {v : Value} (h : CutRow w1 w' g v) (hm : w.heap.size ≤ w1.heap.size) : CutRow w w' g v := by
  obtain ⟨zs, h1, h2, h3⟩ := h
  exact ⟨zs, own_rebase h1 hm, h2, h3⟩
set_option maxHeartbeats 3200000 in
theorem ffresh_any {w : World} {f : FA} {s : PF} {T : Nat} (h : StAt w f s T) (hg : s.good) (r : PW) (hi : in64 r.shard) {A : Option Addr} {n c : Nat} (hn : r.lens.length = n) (hl : n ≤ 1000000) (hb : Bd r.lens) (hs : Sl w A c (nums r.lens)) :
    Calls Try.prog 49 #[.pointer (some ⟨f.b, 0, none⟩), .agg #[.int .i64 r.shard, .slice A n c]] w (RFresh w s r) := by
  obtain ⟨W0, hW0⟩ : ∃ W, w.alloc (.cells #[.int .i64 r.shard, .slice A n c] 52) = W := ⟨_, rfl⟩
  have M0 : Hid (Mods Nil w W0) := by rw [← hW0]; exact Lib.hid ((Mods.refl Nil w).alloc _)
  have B0 : Hid (Blk W0 w.heap.size 52 #[.int .i64 r.shard, .slice A n c]) := by
    subst hW0
    exact Lib.hid (Blk.new w _ _)
  obtain ⟨y0, y1, -, -⟩ := B0.out.two
  have H0 := Lib.hid (h.nil M0.out)
  have HG := Lib.hid hg
  have HS := Lib.hid (hs.mods M0.out (fun _ _ h => h))
  have HB := Lib.hid hb
  have HN := Lib.hid hn
  have HO := Lib.hid (fopen_any H0.out hi)
  obtain ⟨i, hie⟩ : ∃ i, r.shard = i := ⟨_, rfl⟩
  have HI : Hid (in64 i) := Lib.hid (hie ▸ hi)
  have HR1 : Hid (s.sh i = none → rowE s r = 30) := Lib.hid (fun h => by unfold rowE; rw [hie, h])
  have HR2 : Hid (∀ q, s.sh i = some q → q.final = true → rowE s r = 34) := Lib.hid (fun q h h2 => by unfold rowE; rw [hie, h]; simp only [h2, if_true])
  have HR3 : Hid (∀ q, s.sh i = some q → q.final = false → rowE s r = if q.segs < (n : Int) ∨ leB q.lens r.lens = false then 15 else 0) := Lib.hid (fun q h h2 => by unfold rowE; rw [hie, h, hn]; simp only [h2, Bool.false_eq_true, if_false])
  have HLF : Hid (lensO s r.shard = lensO s i) := Lib.hid (by rw [hie])
  have HPF : Hid (∀ e w', (rowE s r ≠ 0 → e = .returned (.tuple #[.slice none 0 0, .int .i64 (rowE s r)])) → (rowE s r = 0 → ∃ v, e = .returned (.tuple #[v, .int .i64 0]) ∧ CutRow w w' (fun g => vat r.lens g - vat (lensO s i) g) v) → Mods Nil w w' → RFresh w s r e w') := Lib.hid (fun e w' a b d => by
    unfold RFresh
    rw [HLF.out]
    exact ⟨a, b, d⟩)
  rw [hie] at HO y0 hW0
  rw [hie]
  obtain ⟨re, hre⟩ : ∃ re, rowE s r = re := ⟨_, rfl⟩
  rw [hre] at HR1 HR2 HR3 HPF
  clear h hg hi hn hb hs hie hre
  cases hq : s.sh i with
  | none =>
    have hl : liveE s i = 30 := by unfold liveE; rw [hq]
    rw [hl] at HO
    obtain rfl : re = 30 := HR1.out hq
    clear HR1 HR2 HR3 hl hq
    go_enter Try.func49, Try.ntmps49
    go_wp2_with (go_at_call 48; refine HO.out.mono ?_; rintro e w1 ⟨rfl, m1⟩; have M1 := Lib.hid m1; clear m1)
    go_ret2
    exact HPF.out _ _ (fun _ => rfl) (fun h => absurd h (by decide)) (M0.out.trans M1.out)
  | some q =>
    have hl : liveE s i = if q.final = true then 34 else 0 := by unfold liveE; rw [hq]
    rw [hl] at HO
    cases hf : q.final with
    | true =>
      rw [hf] at HO
      obtain rfl : re = 34 := HR2.out q hq hf
      clear HR1 HR2 HR3 hl hq hf
      go_enter Try.func49, Try.ntmps49
      go_wp2_with (go_at_call 48; refine HO.out.mono ?_; rintro e w1 ⟨rfl, m1⟩; have M1 := Lib.hid m1; clear m1)
      go_ret2
      exact HPF.out _ _ (fun _ => rfl) (fun h => absurd h (by decide)) (M0.out.trans M1.out)
    | false =>
      rw [hf] at HO
      have HRE := Lib.hid (HR3.out q hq hf)
      clear HR1 HR2 HR3
      obtain ⟨A2, m, d, hm, ho, hlk⟩ := look_sh H0.out HI.out hq
      have HLK := Lib.hid hlk
      have HID := Lib.hid (HG.out.ids i q hq)
      have SL2 := Lib.hid (own_sl ho)
      have HM := Lib.hid hm
      have HLF : Hid (lensO s i = q.lens) := Lib.hid (lensO_some hq)
      have hm4 : m ≤ 1000000 := by have := HID.out.2.2.2; have := HID.out.2.1; have := HM.out; omega
      have HLE := Lib.hid (fun X (hX : Mods Nil W0 X) => less_any X HN.out ‹_› HB.out (HS.out.mods hX (fun _ _ h => h)) HM.out hm4 (SL2.out.mods hX (fun _ _ h => h)))
      have d0 := H0.out.cells.1
      have bl := H0.out.blk.lt
      have Y0 := Lib.hid y0
      have Y1 := Lib.hid y1
      have D0 := Lib.hid d0
      have BL := Lib.hid bl
      have B0L := Lib.hid B0.out.lt
      obtain ⟨sg, hsg⟩ : ∃ sg, q.segs = sg := ⟨_, rfl⟩
      have HSG := Lib.hid hsg
      have HFI := Lib.hid hf
      clear hl hq hf hlk ho hm hm4 hsg d0 bl
      by_cases hsn : sg < (n : Int)
      · obtain rfl : re = 15 := by rw [HRE.out, if_pos (.inl (by rw [HSG.out]; exact hsn))]
        clear HRE
        go_enter Try.func49, Try.ntmps49
        go_wp2_with (go_at_call 48; refine HO.out.mono ?_; rintro e w1 ⟨rfl, m1⟩; have M1 := Lib.hid m1; clear m1)
        have e1 : ∀ V, Mods Nil w1 V → V.cell? ⟨f.b, 0, none⟩ = some (.map (some f.m1)) := fun V hV => (World.cell?_of_block ((M1.out.trans hV).block f.b BL.out (fun h => h))).trans D0.out
        have e2 : ∀ V, Mods Nil w1 V → V.cell? ⟨w.heap.size, 0, none⟩ = some (.int .i64 i) := fun V hV => (World.cell?_of_block ((M1.out.trans hV).block _ B0L.out (fun h => h))).trans Y0.out
        have e3 : ∀ V, Mods Nil w1 V → (Instr.lookup 57 (.map (some f.m1)) (.int .i64 i) false).run Try.prog V = .ok (.agg #[.int .i64 i, .int .i64 sg, .slice A2 m d, .bool false]) V := fun V hV => by
          have := (HLK.out V (M1.out.trans hV)).2
          unfold shV at this
          rw [HSG.out, HFI.out] at this
          exact this
        clear y0 y1
        refine hw_region (S := fun V => Mods Nil w1 V) 9 (by kernel_rfl) rfl ?_
        refine hw_reads 0 7 2 (by kernel_rfl) (fun _ _ _ _ _ h => h) ((Mods.refl Nil w1).drew) ?_
        simp only [List.drop_zero, List.take_succ_cons, List.take_zero]
        repeat (refine hw_op (by rfl) (v := ?_) ?_ ?_; rotate_left; (focus (intro V hV; go_simp; try with_reducible rfl)); simp only [Act.put, List.setIfInBounds_toArray, List.set_cons_zero, List.set_cons_succ])
        refine hw_nil ?_
        refine hw_new 7 0 rfl rfl (by kernel_rfl) (by kernel_rfl) rfl rfl rfl rfl rfl rfl (by decide) (by simp) rfl (sh_zero _) rfl rfl (by simp [Value.oneCell']) (by kernel_rfl) rfl ((Mods.refl Nil w1).drew) ?_
        intro W2 b2 m2 s2
        refine hw_done (by kernel_rfl) ?_
        have M2 := Lib.hid (M1.out.trans (m2.of_drew))
        have B2 := Lib.hid b2
        clear e1 e2 e3 b2 m2 s2
        have y1 : W2.cell? ⟨w.heap.size, 1, none⟩ = some (.slice A n c) := (World.cell?_of_block (M2.out.block _ B0L.out (fun h => h))).trans Y1.out
        have y2 : W2.cell? ⟨w1.heap.size, 1, none⟩ = some (.int .i64 sg) := B2.out.cell 1
        have y3 : W2.cell? ⟨w1.heap.size, 2, none⟩ = some (.slice A2 m d) := B2.out.cell 2
        go_wp2_with fail
        go_ret2
        exact HPF.out _ _ (fun _ => rfl) (fun h => absurd h (by decide)) (M0.out.trans M2.out)
      · have hsn2 : (n : Int) ≤ sg := by omega
        replace HRE : Hid (re = if leB q.lens r.lens = false then 15 else 0) := Lib.hid (by
          rw [HRE.out]
          by_cases hb : leB q.lens r.lens = false
          · rw [if_pos (.inr hb), if_pos hb]
          · rw [if_neg (fun h => by rcases h with h | h; rw [HSG.out] at h; exact hsn h; exact hb h), if_neg hb])
        have hsn3 := hsn
        clear hsn
        go_enter Try.func49, Try.ntmps49
        go_wp2_with (go_at_call 48; refine HO.out.mono ?_; rintro e w1 ⟨rfl, m1⟩; have M1 := Lib.hid m1; clear m1)
        have e1 : ∀ V, Mods Nil w1 V → V.cell? ⟨f.b, 0, none⟩ = some (.map (some f.m1)) := fun V hV => (World.cell?_of_block ((M1.out.trans hV).block f.b BL.out (fun h => h))).trans D0.out
        have e2 : ∀ V, Mods Nil w1 V → V.cell? ⟨w.heap.size, 0, none⟩ = some (.int .i64 i) := fun V hV => (World.cell?_of_block ((M1.out.trans hV).block _ B0L.out (fun h => h))).trans Y0.out
        have e3 : ∀ V, Mods Nil w1 V → (Instr.lookup 57 (.map (some f.m1)) (.int .i64 i) false).run Try.prog V = .ok (.agg #[.int .i64 i, .int .i64 sg, .slice A2 m d, .bool false]) V := fun V hV => by
          have := (HLK.out V (M1.out.trans hV)).2
          unfold shV at this
          rw [HSG.out, HFI.out] at this
          exact this
        clear y0 y1
        refine hw_region (S := fun V => Mods Nil w1 V) 9 (by kernel_rfl) rfl ?_
        refine hw_reads 0 7 2 (by kernel_rfl) (fun _ _ _ _ _ h => h) ((Mods.refl Nil w1).drew) ?_
        simp only [List.drop_zero, List.take_succ_cons, List.take_zero]
        repeat (refine hw_op (by rfl) (v := ?_) ?_ ?_; rotate_left; (focus (intro V hV; go_simp; try with_reducible rfl)); simp only [Act.put, List.setIfInBounds_toArray, List.set_cons_zero, List.set_cons_succ])
        refine hw_nil ?_
        refine hw_new 7 0 rfl rfl (by kernel_rfl) (by kernel_rfl) rfl rfl rfl rfl rfl rfl (by decide) (by simp) rfl (sh_zero _) rfl rfl (by simp [Value.oneCell']) (by kernel_rfl) rfl ((Mods.refl Nil w1).drew) ?_
        intro W2 b2 m2 s2
        refine hw_done (by kernel_rfl) ?_
        have M2 := Lib.hid (M1.out.trans (m2.of_drew))
        have B2 := Lib.hid b2
        clear e1 e2 e3 b2 m2 s2
        have y1 : W2.cell? ⟨w.heap.size, 1, none⟩ = some (.slice A n c) := (World.cell?_of_block (M2.out.block _ B0L.out (fun h => h))).trans Y1.out
        have y2 : W2.cell? ⟨w1.heap.size, 1, none⟩ = some (.int .i64 sg) := B2.out.cell 1
        have y3 : W2.cell? ⟨w1.heap.size, 2, none⟩ = some (.slice A2 m d) := B2.out.cell 2
        go_wp2_with (go_at_call 56; refine (HLE.out _ M2.out).mono ?_; intro e w3 h3; have H3 : Hid (∃ v, e = .returned (.tuple #[v, .int .i64 re]) ∧ (re ≠ 0 → v = .slice none 0 0) ∧ (re = 0 → CutRow w w3 (fun g => vat r.lens g - vat q.lens g) v) ∧ Mods Nil w w3) := Lib.hid (by
          obtain ⟨h4, h5, h6⟩ := h3
          have m9 := (M0.out.trans M2.out).trans h6
          cases hb : leB q.lens r.lens with
          | false =>
            have e15 : re = 15 := by rw [HRE.out, hb]; rfl
            exact ⟨_, by rw [h4 hb, e15], fun _ => rfl, fun h => absurd (h.symm.trans e15) (by decide), m9⟩
          | true =>
            have e0 : re = 0 := by rw [HRE.out, hb]; rfl
            obtain ⟨v, h7, h8⟩ := h5 hb
            exact ⟨v, by rw [h7, e0], fun h => absurd e0 h, fun _ => h8.base (by have := (M0.out.trans M2.out).size; omega), m9⟩); clear h3; obtain ⟨v, rfl, hv, hv2, m3⟩ := H3.out; have HV := Lib.hid hv; have HV2 := Lib.hid hv2; have M3 := Lib.hid m3; clear hv hv2 m3)
        go_ret2
        exact HPF.out _ _ (fun h => by rw [HV.out h]; rfl) (fun h => ⟨v, by rw [h]; rfl, by rw [HLF.out]; exact HV2.out h⟩) M3.out
end Go.Proofs.Ytkodmgnagfolpaa
end

section
/- Package fold: a span is laid behind the others; what a row adds, step by step. -/
namespace Go.Proofs.Ytkodmgnagfolpaa
set_option maxRecDepth 100000
open Go.RowKit Go.Maps
set_option linter.unusedVariables false
set_option linter.unusedSimpArgs false

theorem infoSp : (Try.prog.info? 47).map (fun i => (i.zero, i.size, i.bytes)) = some (some (.agg #[.int .u64 0, .int .i64 0, .int .i64 0, .int .u64 0, .int .u64 0]), 5, 40) := by kernel_rfl
def FA.to (f : FA) (v : Value) : FA := { f with sp := v }
theorem StAt.push {w w5 : World} {f : FA} {s : PF} {T n' : Nat} {p : PP} {sp' : Value} (h : StAt w f s T) (hm : Mods (fun k => f.sp.ownBlock = some k) w w5)
    (ho : w5.ownsRow 0 47 5 sp' (s.L.length + 1) (rowP s.L ++ cellsP p)) (hb : ∀ k, sp'.ownBlock = some k → f.sp.ownBlock = some k ∨ w.heap.size ≤ k) :
    StAt (w5.setCell ⟨f.b, 1, none⟩ sp') (f.to sp') { s with L := s.L ++ [p], n := n' } T ∧ FA.next w f (f.to sp') ∧ Mods (FS f) w (w5.setCell ⟨f.b, 1, none⟩ sp') := by
  have hmF : Mods (FS f) w w5 := hm.mono (fun k _ hk => .inr (.inr (.inr hk)))
  have hB5 : Blk w5 f.b 60 #[.map (some f.m1), f.sp, .int .u64 (s.low : Int), .map (some f.m2)] := h.blk.mods hm (fun hk => own_blk_ne h.spans h.blk (by decide) hk)
  have hs : Mods (fun k => k = f.b) w5 (w5.setCell ⟨f.b, 1, none⟩ sp') := Mods.setCell (S := fun k => k = f.b) (Mods.refl _ _) (fun _ => rfl) _
  have hS : Mods (fun k => k = f.b ∨ f.sp.ownBlock = some k) w (w5.setCell ⟨f.b, 1, none⟩ sp') := (hm.mono (fun k _ hk => .inr hk)).trans (hs.mono (fun k _ hk => .inl hk))
  have hF : Mods (FS f) w (w5.setCell ⟨f.b, 1, none⟩ sp') := hS.mono (fun k _ hk => by rcases hk with rfl | hk; exact .inl rfl; exact .inr (.inr (.inr hk)))
  refine ⟨⟨?_, ?_, ?_, ?_, h.ne, fun k hk => Nat.lt_of_lt_of_le (h.old k hk) hS.size⟩, ⟨rfl, ?_, rfl⟩, hF⟩
  · have := hB5.set_ 1 sp'
    simpa [FA.to] using this
  · have := own_mods ho hs (fun k hk e => by subst e; exact own_blk_ne ho hB5 (by decide) hk)
    simpa [FA.to, rowP_append, rowP] using this
  · obtain ⟨n1, g1, h1, h1n, h1s⟩ := h.shards
    refine ⟨n1, g1, h1.mods hS (fun hk => ?_), h1n, fun i hi => (h1s i hi).mods hF (fun ho k hk => h.nums_off ho k hk)⟩
    rcases hk with e | hk
    · exact isMap_blk h.map1 h.blk e
    · exact isMap_own h.map1 h.spans hk
  · obtain ⟨n2, g2, h2, h2n, h2s⟩ := h.told
    refine ⟨n2, g2, h2.mods hS (fun hk => ?_), h2n, h2s⟩
    rcases hk with e | hk
    · exact isMap_blk h.map2 h.blk e
    · exact isMap_own h.map2 h.spans hk
  · rintro k (rfl | rfl | rfl | hk)
    · exact .inl (.inl rfl)
    · exact .inl (.inr (.inl rfl))
    · exact .inl (.inr (.inr (.inl rfl)))
    · rcases hb k hk with h1 | h1
      · exact .inl (.inr (.inr (.inr h1)))
      · exact .inr h1

/-! What a row adds, of its first j segments. -/
def stepF (s : PF) (id : Int) (a b : List Nat) (j : Nat) : PF := { s with L := s.L ++ newL id a b s.n j, n := s.n + newN a b j }
theorem stepF_zero (s : PF) (id : Int) (a b : List Nat) : stepF s id a b 0 = s := by
  unfold stepF
  simp [newL, newN]
theorem stepF_skip {s : PF} {id : Int} {a b : List Nat} {j : Nat} (h : vat b j - vat a j = 0) : stepF s id a b (j + 1) = stepF s id a b j := by
  unfold stepF
  simp only [newL, newN, h, Nat.add_zero]
  rw [if_neg (by omega), List.append_nil]
theorem stepF_more {s : PF} {id : Int} {a b : List Nat} {j y : Nat} (h : vat b j - vat a j = y) (hy : 0 < y) : stepF s id a b (j + 1) = { stepF s id a b j with L := (stepF s id a b j).L ++ [⟨(stepF s id a b j).n, id, j, vat a j, y⟩], n := (stepF s id a b j).n + y } := by
  unfold stepF
  simp only [newL, newN, h]
  rw [if_pos (by omega), List.append_assoc, Nat.add_assoc]
theorem stepF_stay {s : PF} {id : Int} {a b : List Nat} {j : Nat} : ∀ {k : Nat}, (∀ g, j ≤ g → vat b g - vat a g = 0) → j ≤ k → stepF s id a b k = stepF s id a b j
  | 0, _, h => by obtain rfl : j = 0 := by omega
                  rfl
  | k + 1, h0, h => by
    rcases Nat.lt_or_ge j (k + 1) with hl | hg
    · rw [stepF_skip (h0 k (by omega))]
      exact stepF_stay h0 (by omega)
    · obtain rfl : j = k + 1 := by omega
      rfl
theorem stepF_n {s : PF} {id : Int} {a b : List Nat} {j k : Nat} (h : j ≤ k) : (stepF s id a b j).n ≤ (stepF s id a b k).n := by
  have := newN_le_of (a := a) (b := b) h
  show s.n + _ ≤ s.n + _
  omega
theorem newL_length (id : Int) (a b : List Nat) (n : Nat) : ∀ j, (newL id a b n j).length ≤ j
  | 0 => Nat.le_refl _
  | j + 1 => by
    have := newL_length id a b n j
    simp only [newL, List.length_append]
    split <;> simp <;> omega
theorem stepF_length (s : PF) (id : Int) (a b : List Nat) (j : Nat) : (stepF s id a b j).L.length ≤ s.L.length + j := by
  have := newL_length id a b s.n j
  show (s.L ++ _).length ≤ _
  rw [List.length_append]; omega
theorem stepF_len {s : PF} {q : PH} {id : Int} {b : List Nat} (hg : s.goodL) (hs : s.sh id = some q) (hle : ∀ g, vat q.lens g ≤ vat b g) {j k : Nat} (hjk : j ≤ k) (hf : (stepF s id q.lens b k).n < 18446744073709551616) : (stepF s id q.lens b j).len := by
  obtain ⟨h1, h2, h3⟩ := newL_spec (id := id) (a := q.lens) (b := b) hg.ok (hg.lens _ _ hs) hle j
  rw [← hg.n] at h1 h2
  exact ⟨h1, h2.symm, Nat.lt_of_le_of_lt (stepF_n hjk) hf⟩
theorem putRow_step {s : PF} {r : PW} {q : PH} (hs : s.sh r.shard = some q) : putRow s r = { stepF s r.shard q.lens r.lens r.lens.length with sh := upH s.sh r.shard { q with lens := r.lens } } := by
  rw [putRow_some hs]; rfl
/-- A shard is laid into the map. -/
theorem StAt.lay {w : World} {f : FA} {s : PF} {T : Nat} (h : StAt w f s T) {i : Int} (hi : in64 i) (hT : T < maxLen) {q : PH} {A : Option Addr} {n c : Nat} (hn : q.lens.length = n) (ho : w.ownsRow 0 27 1 (.slice A n c) n (nums q.lens)) (hy : ∀ k, (Value.slice A n c).ownBlock = some k → ¬ f.Y k) :
    ∃ w', (Instr.mapUpdate 57 (.map (some f.m1)) (.int .i64 i) (shV i q A n c)).run Try.prog w = .ok () w' ∧ StAt w' f { s with sh := upH s.sh i q } (T + if (s.sh i).isSome then 0 else 1) ∧ Mods (fun k => k = f.m1) w w' := by
  obtain ⟨n1, g1, h1, h1n, h1s⟩ := h.shards
  obtain ⟨n2, g2, h2, h2n, h2s⟩ := h.told
  obtain ⟨w', hr, ⟨m, hm, hm1, hm2⟩, hmo⟩ := h1.lay (t := 57) (e := 42) Try.underlying3 Try.underlying57 hi (by omega) (shV i q A n c)
  have hU : ∀ {base n size : Nat} {v : Value} {xs : List Value}, w.ownsRow base 27 size v n xs → ∀ k, v.ownBlock = some k → ¬ k = f.m1 := fun ho k hk e => by subst e; exact isMap_own h.map1 ho hk
  have his : (g1 i).isSome = (s.sh i).isSome := by
    have := h1s i hi
    cases hs : s.sh i with
    | none => rw [hs] at this; rw [show g1 i = none from this]; rfl
    | some q' => rw [hs] at this; obtain ⟨A', n', c', e, _⟩ := this; rw [e]; rfl
  rw [his] at hm2
  refine ⟨w', hr, ⟨h.blk.mods hmo (fun e => isMap_blk h.map1 h.blk e.symm), own_mods h.spans hmo (fun k hk e => by subst e; exact isMap_own h.map1 h.spans hk), ⟨m, _, hm, by omega, fun x hx => ?_⟩, ⟨n2, g2, h2.mods hmo (fun e => h.ne e.symm), by split <;> omega, h2s⟩, h.ne, fun k hk => Nat.lt_of_lt_of_le (h.old k hk) hmo.size⟩, hmo⟩
  show ShG w' f.Y x (upH s.sh i q x) (upd g1 i (some (shV i q A n c)) x)
  by_cases e : x = i
  · subst e
    rw [upH_same]
    unfold upd
    rw [if_pos rfl]
    exact ⟨A, n, c, rfl, hn, own_mods ho hmo (fun k hk => hU ho k hk), hy⟩
  · rw [upH_ne e]
    unfold upd
    rw [if_neg e]
    exact (h1s x hx).mods hmo hU
end Go.Proofs.Ytkodmgnagfolpaa
end

section
/- Package fold: take. -/
namespace Go.Proofs.Ytkodmgnagfolpaa
set_option maxRecDepth 100000
open Go.RowKit Go.Maps
set_option linter.unusedVariables false
set_option linter.unusedSimpArgs false

theorem five_at {w : World} {cs : List Value} {t : TypeId} (g : Nat) (hg : g = w.heap.size) : ∀ j u, cs[j]? = some u → (w.alloc (.cells cs.toArray t)).cell? ((⟨g, 0, none⟩ : Addr).add j) = some u := fun j u hu => by
  subst hg
  rw [Addr.add_lit, Nat.zero_add, (Blk.new w t cs.toArray).cell]
  simpa using hu
/-- The boxes of take's walk. -/
structure TkB (w W : World) (i : Int) (A : Option Addr) (n c : Nat) (sg : Int) (B : Option Addr) (m d : Nat) (fin : Bool) : Prop where
  r : Blk W w.heap.size 52 #[.int .i64 i, .slice A n c]
  g : Blk W (w.heap.size + 1) 42 #[.int .i64 i, .int .i64 sg, .slice B m d, .bool fin]
theorem TkB.far {S : Nat → Prop} {w W W' : World} {i : Int} {A : Option Addr} {n c : Nat} {sg : Int} {B : Option Addr} {m d : Nat} {fin : Bool} (h : TkB w W i A n c sg B m d fin) (hm : Mods S W W') (h1 : ¬ S w.heap.size) (h2 : ¬ S (w.heap.size + 1)) : TkB w W' i A n c sg B m d fin :=
  ⟨h.r.mods hm h1, h.g.mods hm h2⟩
theorem FS_off {w : World} {f : FA} {s : PF} {T g : Nat} {t : TypeId} {cs : Array Value} (h : StAt w f s T) (hb : Blk w g t cs) (h1 : t ≠ 60) (h2 : t ≠ 47) : ¬ FS f g := by
  rintro (rfl | rfl | rfl | hk)
  · exact Blk.ne_ hb h.blk h1 rfl
  · exact isMap_blk h.map1 hb rfl
  · exact isMap_blk h.map2 hb rfl
  · exact own_blk_ne h.spans hb (Ne.symm h2) hk
set_option maxHeartbeats 6400000 in
theorem ftake_any {w : World} {f : FA} {s : PF} {T : Nat} (h : StAt w f s T) (hg : s.goodL) (r : PW) (hi : in64 r.shard) {q : PH} (hq : s.sh r.shard = some q) (hle : ∀ g, vat q.lens g ≤ vat r.lens g) (hcut : isCut r.lens) (hf : (putRow s r).n < 18446744073709551616)
    {A : Option Addr} {n c : Nat} (hn : r.lens.length = n) (hl : n ≤ 1000) (hs : ∀ V, Mods (FS f) w V → Sl V A c (nums r.lens)) {Z : Option Addr} {m cz : Nat} {zs : List Nat} (hm : zs.length = m) (ho : w.ownsRow 0 27 1 (.slice Z m cz) m (nums zs)) (hzc : isCut zs) (hz : ∀ g, vat zs g = vat r.lens g - vat q.lens g) (hL : s.L.length ≤ 900000) (hT : T ≤ 1000000) :
    Calls Try.prog 51 #[.pointer (some ⟨f.b, 0, none⟩), .agg #[.int .i64 r.shard, .slice A n c], .slice Z m cz] w fun e w' => e = .returned (.tuple #[]) ∧ ∃ f', StAt w' f' (putRow s r) T ∧ FA.next w f f' ∧ Mods (FS f) w w' := by
  obtain ⟨i0, hi0, hz0, hz1, hz2⟩ := info_parts infoSp
  have HI0 := Lib.hid hi0
  clear hi0
  obtain ⟨W0, hW0⟩ : ∃ W, w.alloc (.cells #[.int .i64 r.shard, .slice A n c] 52) = W := ⟨_, rfl⟩
  have M0 : Hid (Mods Nil w W0) := by rw [← hW0]; exact Lib.hid ((Mods.refl Nil w).alloc _)
  have S0 : Hid (W0.heap.size = w.heap.size + 1) := by rw [← hW0]; exact Lib.hid (by simp)
  have B0 : Hid (Blk W0 w.heap.size 52 #[.int .i64 r.shard, .slice A n c]) := by
    subst hW0
    exact Lib.hid (Blk.new w _ _)
  obtain ⟨y0, y1, -, -⟩ := B0.out.two
  have H0 := Lib.hid (h.nil M0.out)
  have HH := Lib.hid h
  have HG := Lib.hid hg
  have HQ := Lib.hid hq
  have HLE := Lib.hid hle
  have HCUT := Lib.hid hcut
  have HF := Lib.hid hf
  have HN := Lib.hid hn
  have HS := Lib.hid hs
  have HM := Lib.hid hm
  have HO := Lib.hid ho
  have HZ := Lib.hid hz
  have HL := Lib.hid hL
  have hmn : m ≤ n := by
    rcases Nat.lt_or_ge n m with hlt | hge
    · obtain ⟨k, hk⟩ : ∃ k, zs.length = k + 1 := ⟨m - 1, by omega⟩
      have h1 := hzc k hk
      rw [hz, vat_ge (xs := r.lens) (by omega), Nat.zero_sub] at h1
      exact absurd rfl h1
    · exact hge
  have HMN := Lib.hid hmn
  have hmm : m ≤ 1000000 := by omega
  have HEND : Hid (stepF s r.shard q.lens r.lens m = stepF s r.shard q.lens r.lens n) := Lib.hid (stepF_stay (fun g hg => by rw [← hz]; exact vat_ge (by omega)) hmn).symm
  have HPUT := Lib.hid (putRow_step hq)
  rw [hn] at HPUT
  have HLEN : Hid (∀ j, j ≤ n → (stepF s r.shard q.lens r.lens j).len) := Lib.hid (fun j hj => stepF_len hg hq hle hj (by
    have := hf
    rw [HPUT.out] at this
    exact this))
  have HSZ : Hid (∀ j, j ≤ n → (stepF s r.shard q.lens r.lens j).L.length ≤ 901000) := Lib.hid (fun j hj => by have := stepF_length s r.shard q.lens r.lens j; omega)
  obtain ⟨i, hie⟩ : ∃ i, r.shard = i := ⟨_, rfl⟩
  rw [hie] at hi hq y0 hW0 B0 HEND HPUT HLEN HSZ
  rw [hie]
  have HIE := Lib.hid hie
  obtain ⟨A2, m2, d, hm2, ho2, hlk⟩ := look_sh HH.out hi hq
  have HM2 := Lib.hid hm2
  have HOW := Lib.hid ho2
  have HI := Lib.hid hi
  obtain ⟨sg, hsg⟩ : ∃ sg, q.segs = sg := ⟨_, rfl⟩
  obtain ⟨fin, hfin⟩ : ∃ fin, q.final = fin := ⟨_, rfl⟩
  have e3 : ∀ V, Mods Nil W0 V → (Instr.lookup 57 (.map (some f.m1)) (.int .i64 i) false).run Try.prog V = .ok (.agg #[.int .i64 i, .int .i64 sg, .slice A2 m2 d, .bool fin]) V := fun V hV => by
    have := (hlk V (M0.out.trans hV)).2
    unfold shV at this
    rw [hsg, hfin] at this
    exact this
  have d0 := H0.out.cells.1
  have bl := H0.out.blk.lt
  have e1 : ∀ V, Mods Nil W0 V → V.cell? ⟨f.b, 0, none⟩ = some (.map (some f.m1)) := fun V hV => (World.cell?_of_block (hV.block f.b bl (fun h => h))).trans d0
  have e2 : ∀ V, Mods Nil W0 V → V.cell? ⟨w.heap.size, 0, none⟩ = some (.int .i64 i) := fun V hV => (World.cell?_of_block (hV.block _ B0.out.lt (fun h => h))).trans y0
  have HSG := Lib.hid hsg
  have HFIN := Lib.hid hfin
  clear h hg hq hle hcut hf hn hs hm ho hz hL hmn hie hlk hm2 ho2 hi hsg hfin hzc bl d0 y0 y1
  go_enter Try.func51, Try.ntmps51
  go_wp2_with fail
  refine hw_region (S := fun V => Mods Nil W0 V) 9 (by kernel_rfl) rfl ?_
  refine hw_reads 0 7 2 (by kernel_rfl) (fun _ _ _ _ _ h => h) ((Mods.refl Nil W0).drew) ?_
  simp only [List.drop_zero, List.take_succ_cons, List.take_zero]
  repeat (refine hw_op (by rfl) (v := ?_) ?_ ?_; rotate_left; (focus (intro V hV; go_simp; try with_reducible rfl)); simp only [Act.put, List.setIfInBounds_toArray, List.set_cons_zero, List.set_cons_succ])
  refine hw_nil ?_
  refine hw_new 7 0 rfl rfl (by kernel_rfl) (by kernel_rfl) rfl rfl rfl rfl rfl rfl (by decide) (by simp) rfl (sh_zero _) rfl rfl (by simp [Value.oneCell']) (by kernel_rfl) rfl ((Mods.refl Nil W0).drew) ?_
  intro W2 b2 m9 s2
  refine hw_done (by kernel_rfl) ?_
  have b2' : Blk W2 (w.heap.size + 1) 42 #[.int .i64 i, .int .i64 sg, .slice A2 m2 d, .bool fin] := by rw [← S0.out]; exact b2
  have M2 := Lib.hid (M0.out.trans m9.of_drew)
  have TB := Lib.hid (show TkB w W2 i A n c sg A2 m2 d fin from ⟨B0.out.mods m9.of_drew (fun h => h), b2'⟩)
  have hS0 := S0.out
  have hgs : W0.drew.heap.size = w.heap.size + 1 := hS0
  rw [hgs]
  clear e1 e2 e3 b2 b2' m9 s2 hS0 hgs
  go_wp2_with fail
  go_loopw [18] (fun x wr => ∃ (j : Nat) (f' : FA), j ≤ m ∧ x = .int .i64 (j : Int) ∧ StAt wr f' (stepF s i q.lens r.lens j) T ∧ FA.next w f f' ∧ Mods (FS f) w wr ∧ TkB w wr i A n c sg A2 m2 d fin) (fun x _ => m - (intOf x).toNat)
  case atStart => exact ⟨0, f, Nat.zero_le _, rfl, by rw [stepF_zero]; exact HH.out.nil M2.out, FA.next.refl _ _, M2.out.mono (fun _ _ h => h.elim), TB.out⟩
  case round =>
    obtain ⟨j, f', hj, rfl, hst, hnx, hmo, htb⟩ := hrel
    have HST := Lib.hid hst
    have HNX := Lib.hid hnx
    have HMO := Lib.hid hmo
    have HTB := Lib.hid htb
    clear hst hnx hmo htb TB
    by_cases hlt : j < m
    · have hjI : (j : Int) < (m : Int) := by omega
      have hoz := own_mods HO.out HMO.out (HH.out.nums_off HO.out)
      obtain ⟨zb, zo, hZ, hzb, hzc⟩ := sl_num (own_sl hoz) (j := j) (by rw [HM.out]; exact hlt)
      obtain ⟨y, hy⟩ : ∃ y, vat zs j = y := ⟨_, rfl⟩
      rw [hy] at hzc
      subst hZ
      by_cases h0 : y = 0
      · subst h0
        have hsk := stepF_skip (s := s) (id := i) (a := q.lens) (b := r.lens) (j := j) (by rw [← HZ.out]; exact hy)
        have HSK := Lib.hid hsk
        clear hy hoz hzb hsk
        go_wp2_with fail
        exact ⟨⟨j + 1, f', by omega, by go_num, by rw [HSK.out]; exact HST.out, HNX.out, HMO.out, HTB.out⟩, by simp [intOf]; omega⟩
      · have hyp : (0 : Int) < (y : Int) := by omega
        have hjn : j ≤ n := by have := HMN.out; omega
        have hyn : 0 < y := by omega
        have hmore := stepF_more (s := s) (id := i) (a := q.lens) (b := r.lens) (j := j) (y := y) (by rw [← HZ.out]; exact hy) hyn
        have HMORE := Lib.hid hmore
        have HLJ := Lib.hid (HLEN.out j hjn)
        have HSJ := Lib.hid (HSZ.out j hjn)
        obtain ⟨sj, hsj⟩ : ∃ sj, stepF s i q.lens r.lens j = sj := ⟨_, rfl⟩
        rw [hsj] at HST HMORE HLJ HSJ
        obtain ⟨N, hN⟩ : ∃ N, sj.n = N := ⟨_, rfl⟩
        obtain ⟨af, haf⟩ : ∃ af, vat q.lens j = af := ⟨_, rfl⟩
        rw [hN, haf] at HMORE
        have hfb : f'.b = f.b := HNX.out.1
        have hspb : ¬ f'.sp.ownBlock = some f.b := by rw [← hfb]; exact own_blk_ne HST.out.spans HST.out.blk (by decide)
        have hspr : ¬ f'.sp.ownBlock = some w.heap.size := own_blk_ne HST.out.spans HTB.out.r (by decide)
        have hspg : ¬ f'.sp.ownBlock = some (w.heap.size + 1) := own_blk_ne HST.out.spans HTB.out.g (by decide)
        have hbl := HST.out.blk
        rw [hfb] at hbl
        have k1 : ∀ V, Mods (fun k => f'.sp.ownBlock = some k) wr V → V.cell? ⟨f.b, 1, none⟩ = some f'.sp := fun V hV => (hbl.mods hV hspb).cell 1
        have k2 : ∀ V, Mods (fun k => f'.sp.ownBlock = some k) wr V → V.cell? ⟨w.heap.size, 0, none⟩ = some (.int .i64 i) := fun V hV => (HTB.out.r.mods hV hspr).cell 0
        have k3 : ∀ V, Mods (fun k => f'.sp.ownBlock = some k) wr V → V.cell? ⟨w.heap.size + 1, 2, none⟩ = some (.slice A2 m2 d) := fun V hV => (HTB.out.g.mods hV hspg).cell 2
        have HLENC : Hid (∀ V, Mods Nil wr V → Calls Try.prog 13 #[.pointer (some ⟨f.b, 0, none⟩)] V fun e V' => e = .returned (.int .u64 (N : Int)) ∧ Mods Nil wr V') := Lib.hid (fun V hV => by
          have := flen_any (HST.out.nil hV) HLJ.out (by have := HSJ.out; omega)
          rw [hfb, hN] at this
          exact this.mono fun e V' h => ⟨h.1, hV.trans h.2⟩)
        have hoq := own_mods HOW.out HMO.out (fun k hk => HH.out.nums_off HOW.out k hk)
        have HATC : Hid (∀ V, Mods Nil wr V → Calls Try.prog 25 #[.slice A2 m2 d, .int .i64 (j : Int)] V fun e V' => e = .returned (.int .u64 (af : Int)) ∧ Mods Nil wr V') := Lib.hid (fun V hV => (vat_nat V HM2.out ((own_sl hoq).mods hV (fun _ _ h => h)) j).mono fun e V' h => ⟨by rw [h.1, haf], h.2 ▸ hV⟩)
        have HS0 : Hid (Mods (fun k => f'.sp.ownBlock = some k) wr wr.drew) := Lib.hid (Mods.refl _ wr).drew
        have HFB := Lib.hid hfb
        have HSPB := Lib.hid hspb
        obtain ⟨k, hk⟩ : ∃ k, sj.L.length = k := ⟨_, rfl⟩
        have HK := Lib.hid hk
        rw [hk] at HSJ
        clear hy hoz hzb hmore hsj hN haf hfb hspb hspr hspg hbl hoq hk
        go_wp2_with fail
        refine kt_region (S := fun V => Mods (fun k => f'.sp.ownBlock = some k) wr V) (k := 20) 21 (by kernel_rfl) rfl ?_
        refine kt_take 0 20 rfl (by kernel_rfl) (by kernel_rfl) (by kernel_rfl) (by kernel_rfl) (by kernel_rfl) (fun _ _ _ _ h => h) (by rfl) HS0.out (v := ?_) ?_ ?_
        rotate_left
        · intro V hV
          go_simp
          try with_reducible rfl
        simp only [List.getElem_toArray, List.getElem_cons_succ, List.getElem_cons_zero, Act.put, List.setIfInBounds_toArray, List.set_cons_zero, List.set_cons_succ]
        refine kt_take 1 19 rfl (by kernel_rfl) (by kernel_rfl) (by kernel_rfl) (by kernel_rfl) (by kernel_rfl) (fun _ _ _ _ h => h) (by rfl) HS0.out (v := ?_) ?_ ?_
        rotate_left
        · intro V hV
          go_simp
          try with_reducible rfl
        simp only [List.getElem_toArray, List.getElem_cons_succ, List.getElem_cons_zero, Act.put, List.setIfInBounds_toArray, List.set_cons_zero, List.set_cons_succ]
        refine kt_take 2 18 rfl (by kernel_rfl) (by kernel_rfl) (by kernel_rfl) (by kernel_rfl) (by kernel_rfl) (fun _ _ _ _ h => h) (by rfl) HS0.out (v := ?_) ?_ ?_
        rotate_left
        · intro V hV
          go_simp
          try with_reducible rfl
        simp only [List.getElem_toArray, List.getElem_cons_succ, List.getElem_cons_zero, Act.put, List.setIfInBounds_toArray, List.set_cons_zero, List.set_cons_succ]
        refine kt_take 3 17 rfl (by kernel_rfl) (by kernel_rfl) (by kernel_rfl) (by kernel_rfl) (by kernel_rfl) (fun _ _ _ _ h => h) (by rfl) HS0.out (v := ?_) ?_ ?_
        rotate_left
        · intro V hV
          go_simp
          try with_reducible rfl
        simp only [List.getElem_toArray, List.getElem_cons_succ, List.getElem_cons_zero, Act.put, List.setIfInBounds_toArray, List.set_cons_zero, List.set_cons_succ]
        refine kt_take 4 16 rfl (by kernel_rfl) (by kernel_rfl) (by kernel_rfl) (by kernel_rfl) (by kernel_rfl) (fun _ _ _ _ h => h) (by rfl) HS0.out (v := ?_) ?_ ?_
        rotate_left
        · intro V hV
          go_simp
          try with_reducible rfl
        simp only [List.getElem_toArray, List.getElem_cons_succ, List.getElem_cons_zero, Act.put, List.setIfInBounds_toArray, List.set_cons_zero, List.set_cons_succ]
        refine kt_take 5 15 rfl (by kernel_rfl) (by kernel_rfl) (by kernel_rfl) (by kernel_rfl) (by kernel_rfl) (fun _ _ _ _ h => h) (by rfl) HS0.out (v := ?_) ?_ ?_
        rotate_left
        · intro V hV
          go_simp
          try with_reducible rfl
        simp only [List.getElem_toArray, List.getElem_cons_succ, List.getElem_cons_zero, Act.put, List.setIfInBounds_toArray, List.set_cons_zero, List.set_cons_succ]
        refine kt_take 7 14 rfl (by kernel_rfl) (by kernel_rfl) (by kernel_rfl) (by kernel_rfl) (by kernel_rfl) (fun _ _ _ _ h => h) (by rfl) HS0.out (v := ?_) ?_ ?_
        rotate_left
        · intro V hV
          go_simp
          try with_reducible rfl
        simp only [List.getElem_toArray, List.getElem_cons_succ, List.getElem_cons_zero, Act.put, List.setIfInBounds_toArray, List.set_cons_zero, List.set_cons_succ]
        refine kt_take 8 13 rfl (by kernel_rfl) (by kernel_rfl) (by kernel_rfl) (by kernel_rfl) (by kernel_rfl) (fun _ _ _ _ h => h) (by rfl) HS0.out (v := ?_) ?_ ?_
        rotate_left
        · intro V hV
          go_simp
          try with_reducible rfl
        simp only [List.getElem_toArray, List.getElem_cons_succ, List.getElem_cons_zero, Act.put, List.setIfInBounds_toArray, List.set_cons_zero, List.set_cons_succ]
        refine kt_take 9 12 rfl (by kernel_rfl) (by kernel_rfl) (by kernel_rfl) (by kernel_rfl) (by kernel_rfl) (fun _ _ _ _ h => h) (by rfl) HS0.out (v := ?_) ?_ ?_
        rotate_left
        · intro V hV
          go_simp
          try with_reducible rfl
        simp only [List.getElem_toArray, List.getElem_cons_succ, List.getElem_cons_zero, Act.put, List.setIfInBounds_toArray, List.set_cons_zero, List.set_cons_succ]
        refine kt_take 10 11 rfl (by kernel_rfl) (by kernel_rfl) (by kernel_rfl) (by kernel_rfl) (by kernel_rfl) (fun _ _ _ _ h => h) (by rfl) HS0.out (v := ?_) ?_ ?_
        rotate_left
        · intro V hV
          go_simp
          try with_reducible rfl
        simp only [List.getElem_toArray, List.getElem_cons_succ, List.getElem_cons_zero, Act.put, List.setIfInBounds_toArray, List.set_cons_zero, List.set_cons_succ]
        refine kt_take 11 10 rfl (by kernel_rfl) (by kernel_rfl) (by kernel_rfl) (by kernel_rfl) (by kernel_rfl) (fun _ _ _ _ h => h) (by rfl) HS0.out (v := ?_) ?_ ?_
        rotate_left
        · intro V hV
          go_simp
          try with_reducible rfl
        simp only [List.getElem_toArray, List.getElem_cons_succ, List.getElem_cons_zero, Act.put, List.setIfInBounds_toArray, List.set_cons_zero, List.set_cons_succ]
        refine kt_take 12 9 rfl (by kernel_rfl) (by kernel_rfl) (by kernel_rfl) (by kernel_rfl) (by kernel_rfl) (fun _ _ _ _ h => h) (by rfl) HS0.out (v := ?_) ?_ ?_
        rotate_left
        · intro V hV
          go_simp
          try with_reducible rfl
        simp only [List.getElem_toArray, List.getElem_cons_succ, List.getElem_cons_zero, Act.put, List.setIfInBounds_toArray, List.set_cons_zero, List.set_cons_succ]
        refine kt_take 14 8 rfl (by kernel_rfl) (by kernel_rfl) (by kernel_rfl) (by kernel_rfl) (by kernel_rfl) (fun _ _ _ _ h => h) (by rfl) HS0.out (v := ?_) ?_ ?_
        rotate_left
        · intro V hV
          go_simp
          try with_reducible rfl
        simp only [List.getElem_toArray, List.getElem_cons_succ, List.getElem_cons_zero, Act.put, List.setIfInBounds_toArray, List.set_cons_zero, List.set_cons_succ]
        refine kt_call 6 7 rfl (by kernel_rfl) (by rfl) 13 #[.pointer (some ⟨f.b, 0, none⟩)] (by go_simp) ((HLENC.out _ (Mods.refl Nil wr).drew).mono ?_)
        rintro e w1 ⟨rfl, m1⟩
        have N1 := Lib.hid m1
        refine ⟨_, rfl, m1.mono (fun _ _ h => h.elim), ?_⟩
        clear m1
        simp only [List.getElem_toArray, List.getElem_cons_succ, List.getElem_cons_zero, Act.put, List.setIfInBounds_toArray, List.set_cons_zero, List.set_cons_succ]
        refine kt_call 13 6 rfl (by kernel_rfl) (by rfl) 25 #[.slice A2 m2 d, .int .i64 (j : Int)] (by go_simp) ((HATC.out _ N1.out).mono ?_)
        rintro e w2 ⟨rfl, m2⟩
        have N2 := Lib.hid m2
        refine ⟨_, rfl, m2.mono (fun _ _ h => h.elim), ?_⟩
        clear m2
        simp only [List.getElem_toArray, List.getElem_cons_succ, List.getElem_cons_zero, Act.put, List.setIfInBounds_toArray, List.set_cons_zero, List.set_cons_succ]
        have HS2 : Hid (Mods (fun k => f'.sp.ownBlock = some k) wr w2) := Lib.hid (N2.out.mono (fun _ _ h => h.elim))
        refine kt_take 15 5 rfl (by kernel_rfl) (by kernel_rfl) (by kernel_rfl) (by kernel_rfl) (by kernel_rfl) (fun _ _ _ _ h => h) (by rfl) HS2.out (v := ?_) ?_ ?_
        rotate_left
        · intro V hV
          go_simp
          try with_reducible rfl
        simp only [List.getElem_toArray, List.getElem_cons_succ, List.getElem_cons_zero, Act.put, List.setIfInBounds_toArray, List.set_cons_zero, List.set_cons_succ]
        refine kt_makes 16 4 rfl (by kernel_rfl) (by rfl) (v := .slice (some ⟨w2.heap.size, 0, none⟩) 1 1) (w' := w2.alloc (.cells (cellsP ⟨N, i, j, af, y⟩).toArray 47)) ?_ (HS2.out.alloc _) ?_
        · unfold cellsP
          go_simp
        simp only [List.getElem_toArray, List.getElem_cons_succ, List.getElem_cons_zero, Act.put, List.setIfInBounds_toArray, List.set_cons_zero, List.set_cons_succ]
        obtain ⟨w3, hw3⟩ : ∃ w3, w2.alloc (.cells (cellsP ⟨N, i, j, af, y⟩).toArray 47) = w3 := ⟨_, rfl⟩
        have N3 : Hid (Mods Nil wr w3) := by rw [← hw3]; exact Lib.hid (N2.out.alloc _)
        have C3 := five_at (w := w2) (cs := cellsP ⟨N, i, j, af, y⟩) (t := 47) _ rfl
        rw [hw3] at C3 ⊢
        have OW := (HST.out.nil N3.out).spans
        rw [HK.out] at OW
        refine kt_law 17 3 rfl (by kernel_rfl) ?_
        intro K hK
        refine step_append_rows w3 rfl _ _ 44 rfl 0 47 i0 (.agg #[.int .u64 0, .int .i64 0, .int .i64 0, .int .u64 0, .int .u64 0]) 5 40 Try.underlying44 HI0.out hz0 hz1 hz2 rfl (by decide) f'.sp k (rowP sj.L) rfl OW ⟨w2.heap.size, 0, none⟩ 1 1 (cellsP ⟨N, i, j, af, y⟩) rfl rfl (by decide) C3 (by simp [cellsP, Value.oneCell']) (by have := HSJ.out; omega) (by have := HSJ.out; unfold maxLen; omega) (Nat.zero_le _) ?_
        intro g cap w5 hown hgrow hblk
        have M5 : Hid (Mods (fun k => f'.sp.ownBlock = some k) wr w5) := Lib.hid ((N3.out.mono (fun _ _ h => h.elim)).grown hgrow (fun k hk _ => hk))
        have HOWN := Lib.hid hown
        have HBLK := Lib.hid hblk
        have N3S := Lib.hid N3.out.size
        clear hown hgrow hblk OW C3 hw3
        refine hK _ _ (fun _ => M5.out) ?_
        clear hK
        simp only [List.getElem_toArray, List.getElem_cons_succ, List.getElem_cons_zero, Act.put, List.setIfInBounds_toArray, List.set_cons_zero, List.set_cons_succ]
        refine kt_makes 18 2 rfl (by kernel_rfl) (by rfl) (v := ?_) (w' := w5) ?_ M5.out ?_
        rotate_left
        · go_simp
          try with_reducible rfl
        simp only [List.getElem_toArray, List.getElem_cons_succ, List.getElem_cons_zero, Act.put, List.setIfInBounds_toArray, List.set_cons_zero, List.set_cons_succ]
        refine kt_makes 19 1 rfl (by kernel_rfl) (by rfl) (v := ?_) (w' := w5) ?_ M5.out ?_
        rotate_left
        · go_simp
          try with_reducible rfl
        simp only [List.getElem_toArray, List.getElem_cons_succ, List.getElem_cons_zero, Act.put, List.setIfInBounds_toArray, List.set_cons_zero, List.set_cons_succ]
        have B5 := HST.out.blk.mods M5.out (by rw [HFB.out]; exact HSPB.out)
        rw [HFB.out] at B5
        have c5 := B5.cell 1
        have f5 := B5.frozen 1
        refine kt_put 20 0 rfl (by kernel_rfl) (by rfl) rfl (w' := w5.setCell ⟨f.b, 1, none⟩ (.slice (some ⟨g, 0, none⟩) (k + 1) cap)) ?_ (fun h => by cases h) ?_
        · go_simp
        refine kt_done (by kernel_rfl) ?_
        have hp := StAt.push (n' := N + y) (p := ⟨N, i, j, af, y⟩) (sp' := .slice (some ⟨g, 0, none⟩) (k + 1) cap) HST.out M5.out (by rw [HK.out]; exact HOWN.out) (fun q hq => by
          rcases HBLK.out with h | h
          · exact .inl (h.trans hq)
          · right
            have : q = g := by simpa [Value.ownBlock, eq_comm] using hq
            have := N3S.out
            omega)
        rw [HFB.out] at hp
        obtain ⟨hp1, hp2, hp3⟩ := hp
        have hp4 := FS_off hp1 (HTB.out.r.mods hp3 (FS_off HST.out HTB.out.r (by decide) (by decide))) (by decide) (by decide)
        have HP1 := Lib.hid hp1
        have HP2 := Lib.hid (HNX.out.trans hp2 HMO.out.size)
        have HP3 := Lib.hid (mods_next HMO.out HNX.out hp3)
        have HP4 := Lib.hid (HTB.out.far hp3 (FS_off HST.out HTB.out.r (by decide) (by decide)) (FS_off HST.out HTB.out.g (by decide) (by decide)))
        obtain ⟨W6, hW6⟩ : ∃ W6, w5.setCell ⟨f.b, 1, none⟩ (.slice (some ⟨g, 0, none⟩) (k + 1) cap) = W6 := ⟨_, rfl⟩
        rw [hW6] at HP1 HP3 HP4 ⊢
        clear hp1 hp2 hp3 hp4 c5 f5 B5 hW6
        go_wp2_with fail
        exact ⟨⟨j + 1, _, by omega, by go_num, by rw [HMORE.out]; exact HP1.out, HP2.out, HP3.out, HP4.out⟩, by simp [intOf]; omega⟩
    · obtain rfl : j = m := by omega
      have hend := HEND.out
      rw [hend] at HST
      have HSTN := Lib.hid HST.out
      have hy1 : wr.cell? ⟨w.heap.size, 1, none⟩ = some (.slice A n c) := HTB.out.r.cell 1
      have hn6 : n ≤ 1000000 := by omega
      have HCT := Lib.hid (vcut_any wr HN.out hn6 (HS.out wr HMO.out))
      have hcr : cut r.lens = r.lens := cut_ext (cut_isCut _) HCUT.out (fun g => vat_cut _ g)
      rw [hcr, HN.out] at HCT
      have HFB := Lib.hid HNX.out.1
      clear hend hcr hn6
      go_wp2_with (go_at_call 30; refine HCT.out.mono ?_; rintro e w3 ⟨v, rfl, hv, m3⟩; obtain ⟨A3, c3, rfl, -, -, -⟩ := own_slice hv; have HV := Lib.hid hv; have M3 := Lib.hid m3; have yg := (HTB.out.g.mods m3 (fun h => h)).cell 2; have fg := (HTB.out.g.mods m3 (fun h => h)).frozen 2; clear hv m3)
      clear yg fg hy1
      have hs4 : Mods (fun k => k = w.heap.size + 1) w3 (w3.setCell ⟨w.heap.size + 1, 2, none⟩ (.slice A3 n c3)) := Mods.setCell (S := fun k => k = w.heap.size + 1) (Mods.refl _ _) (fun _ => rfl) _
      have hst3 := HSTN.out.nil M3.out
      have hb3 := HTB.out.g.mods M3.out (fun h => h)
      have hoff := FS_off hst3 hb3 (by decide) (by decide)
      have hst4 := hst3.mods hs4 (fun k hk => by subst hk; exact hoff) (fun ho k hk e => by subst e; exact own_blk_ne ho hb3 (by decide) hk)
      have hv4 := own_mods HV.out hs4 (fun k hk e => by subst e; exact own_blk_ne HV.out hb3 (by decide) hk)
      have hg4 : Blk (w3.setCell ⟨w.heap.size + 1, 2, none⟩ (.slice A3 n c3)) (w.heap.size + 1) 42 #[.int .i64 i, .int .i64 sg, .slice A3 n c3, .bool fin] := by
        have := hb3.set_ 2 (.slice A3 n c3)
        simpa using this
      have hr4 := (HTB.out.r.mods M3.out (fun h => h)).mods hs4 (by omega)
      have hm4 : Mods (FS f) w (w3.setCell ⟨w.heap.size + 1, 2, none⟩ (.slice A3 n c3)) := (HMO.out.trans (M3.out.mono (fun _ _ h => h.elim))).trans2 hs4 (fun k hk e => by omega)
      obtain ⟨W4, hW4⟩ : ∃ W4, w3.setCell ⟨w.heap.size + 1, 2, none⟩ (.slice A3 n c3) = W4 := ⟨_, rfl⟩
      rw [hW4] at hst4 hv4 hg4 hr4 hm4 ⊢
      have ST4 := Lib.hid hst4
      have V4 := Lib.hid hv4
      have G4 := Lib.hid hg4
      have R4 := Lib.hid hr4
      have MM4 := Lib.hid hm4
      have d0 := hst4.cells.1
      rw [HFB.out] at d0
      have bl := hst4.blk.lt
      rw [HFB.out] at bl
      have e1 : ∀ V, Mods Nil W4 V → V.cell? ⟨f.b, 0, none⟩ = some (.map (some f'.m1)) := fun V hV => (World.cell?_of_block (hV.block f.b bl (fun h => h))).trans d0
      have e2 : ∀ V, Mods Nil W4 V → V.cell? ⟨w.heap.size, 0, none⟩ = some (.int .i64 i) := fun V hV => (hr4.mods hV (fun h => h)).cell 0
      have g0 : ∀ V, Mods Nil W4 V → V.cell? ⟨w.heap.size + 1, 0, none⟩ = some (.int .i64 i) := fun V hV => (hg4.mods hV (fun h => h)).cell 0
      have g1 : ∀ V, Mods Nil W4 V → V.cell? ⟨w.heap.size + 1, 1, none⟩ = some (.int .i64 sg) := fun V hV => (hg4.mods hV (fun h => h)).cell 1
      have g2 : ∀ V, Mods Nil W4 V → V.cell? ⟨w.heap.size + 1, 2, none⟩ = some (.slice A3 n c3) := fun V hV => (hg4.mods hV (fun h => h)).cell 2
      have g3 : ∀ V, Mods Nil W4 V → V.cell? ⟨w.heap.size + 1, 3, none⟩ = some (.bool fin) := fun V hV => (hg4.mods hV (fun h => h)).cell 3
      clear hs4 hst3 hb3 hoff hst4 hv4 hg4 hr4 hm4 hW4 d0 bl
      go_wp2_with fail
      refine qt_region 8 (by kernel_rfl) rfl ?_
      refine qt_quiet (fun V => Mods Nil W4 V) 0 7 1 (by kernel_rfl) ((Mods.refl Nil W4).drew) ?_
      simp only [List.drop_zero, List.take_succ_cons, List.take_zero]
      repeat (first
        | go_big_quiet_skip
        | (go_big_quiet_want; first
            | (refine gq_op (v := ?_) ?_ ?_; rotate_left; (focus (intro V hV; go_simp; try with_reducible rfl)); go_big_quiet_on))
          simp only [Act.put, List.setIfInBounds_toArray, List.set_cons_zero, List.set_cons_succ])
      refine wpQuiet_nil ?_
      intro V hV
      refine qt_list 7 1 rfl (by kernel_rfl) ?_
      simp only [List.drop_succ_cons, List.drop_zero]
      have STV := ST4.out.nil hV
      have OV := own_mods V4.out hV (fun _ _ h => h)
      obtain ⟨w9, hrun, ST9, M9⟩ := StAt.lay (q := { q with lens := r.lens }) STV HI.out (by unfold maxLen; omega) HN.out (own_rebase OV (Nat.zero_le _)) (fun k hk hy => by
        have h1 := (OV.lt k hk).1
        rw [HNX.out.2.2] at hy
        have h2 := HH.out.old k hy
        have h3 := HMO.out.size
        omega)
      have hsome : ((stepF s i q.lens r.lens n).sh i).isSome = true := by
        show (s.sh i).isSome = true
        rw [← HIE.out, HQ.out]; rfl
      rw [hsome, if_pos rfl, Nat.add_zero] at ST9
      have ST10 := Lib.hid (show StAt w9 f' (putRow s r) T by rw [HPUT.out]; exact ST9)
      have M10 := Lib.hid ((MM4.out.trans (hV.mono (fun _ _ h => h.elim))).trans2 M9 (fun k hk e => by
        subst e
        rcases HNX.out.2.1 _ (.inr (.inl rfl)) with h | h
        · exact h
        · omega))
      unfold shV at hrun
      simp only [HSG.out, HFIN.out] at hrun
      clear ST9 STV OV hV hsome M9
      refine wpList_plain rfl fun K hK => wp_mapUpdate_run rfl rfl rfl rfl rfl hrun (hK _ _ ?_)
      clear hrun hK
      go_wp2_with fail
      exact bodyPost_end (results_none rfl _ _ _) rfl ⟨rfl, f', ST10.out, HNX.out, M10.out⟩
end Go.Proofs.Ytkodmgnagfolpaa
end
