/- Package learner: where a learner lies; New, again, knows, Next, Top. -/
import Derived.Test.YtbpflkjodiaokaaLrn0
import Derived.Test.YtbpflkjodiaokaaKMapD
import Derived.Test.YtbpflkjodiaokaaKT
import Derived.Test.YtbpflkjodiaokaaClone
namespace Go.Proofs.Ytbpflkjodiaokaa
set_option maxRecDepth 100000
open Go.RowKit Go.Maps
set_option linter.unusedVariables false
set_option linter.unusedSimpArgs false

theorem lequal_any {w : World} {A B : Option Addr} {c d n m : Nat} {xs ys : List UInt8} (hn : xs.length = n) (hm : ys.length = m) (hs : Sl w A c (bts xs)) (hy : Sl w B d (bts ys)) :
    Calls Try.prog 25 #[.slice A n c, .slice B m d] w fun e w' => e = .returned (.bool (decide (xs = ys))) ∧ w = w' := by
  have k1 := run_string_sl (P := Try.prog) w 28 5 Try.underlying28 Try.underlying5 A n c xs hn hs 9 Try.underlying9
  have k2 := run_string_sl (P := Try.prog) w 28 5 Try.underlying28 Try.underlying5 B m d ys hm hy 9 Try.underlying9
  have e1 := strOf_toList xs
  have e2 := strOf_toList ys
  clear hs hy hn hm
  go_enter Try.func25, Try.ntmps25
  go_wp2_with fail
  go_ret
  refine ⟨?_, rfl⟩
  show Ending.returned (.bool (xs == ys)) = _
  rw [show (xs == ys) = decide (xs = ys) by rw [Bool.eq_iff_iff]; simp]

/-- What a call of a learner may write: blocks behind W0 that aren't X's. -/
def LM (W0 : World) (X : Nat → Prop) (k : Nat) : Prop := W0.heap.size ≤ k ∧ ¬ X k
/-- X, and what is new. -/
def LXN (X : Nat → Prop) (W W' : World) (k : Nat) : Prop := X k ∨ (W.heap.size ≤ k ∧ k < W'.heap.size)
/-- A value as the map has it. -/
structure LVal (W : World) (F : Nat → Prop) (o : Option (List UInt8)) (u : Option Value) : Prop where
  none_ : o = none → u = none
  some_ : ∀ v, o = some v → ∃ A c, u = some (.slice A v.length c) ∧ Sl W A c (bts v) ∧ (bts v ≠ [] → ∀ a, A = some a → F a.block) ∧ v.length ≤ 100000
def LFar (W0 W : World) (X : Nat → Prop) (b mb k : Nat) : Prop := W0.heap.size ≤ k ∧ ¬ X k ∧ k ≠ b ∧ k ≠ mb ∧ k < W.heap.size
/-- The values by a map that is there. -/
def LMapH (W0 W : World) (X : Nat → Prop) (b : Nat) (L : List KV) (T mb : Nat) : Prop :=
  ∃ n f, KMap Try.prog 29 W mb n f ∧ n ≤ T ∧ W0.heap.size ≤ mb ∧ ¬ X mb ∧ ∀ s : Nat, s < 18446744073709551616 → LVal W (LFar W0 W X b mb) (lookL L s) (f (.int .u64 (s : Int)))
/-- The values: no map, or one by the slots. -/
def LMap (W0 W : World) (X : Nat → Prop) (b : Nat) (L : List KV) (T : Nat) (mv : Value) : Prop :=
  (mv = .map none ∧ L = []) ∨ ∃ mb, mv = .map (some mb) ∧ LMapH W0 W X b L T mb
structure LrS (W0 W : World) (X : Nat → Prop) (b : Nat) (L : List KV) (T : Nat) : Prop where
  m : Mods Nil W0 W
  ok : ∀ p ∈ L, p.1 < 18446744073709551615
  len : L.length ≤ T
  old : ∀ k, X k → k < W.heap.size
  lo : W0.heap.size ≤ b
  nx : ¬ X b
  blk : ∃ mv r, nextP L r ∧ Blk W b 53 #[mv, .int .u64 (r : Int), .int .u64 (topL L : Int)] ∧ LMap W0 W X b L T mv
theorem topL_lt {L : List KV} (h : ∀ p ∈ L, p.1 < 18446744073709551615) : topL L ≤ 18446744073709551615 := by
  induction L with
  | nil => simp [topL]
  | cons p L ih =>
    have h1 := h p (by simp)
    have h2 := ih (fun q hq => h q (by simp [hq]))
    simp [topL]; omega
theorem look_end {L : List KV} (h : ∀ p ∈ L, p.1 < 18446744073709551615) {s : Nat} (hs : 18446744073709551615 ≤ s) : lookL L s = none := lookL_none.2 (fun p hp e => by have := h p hp; omega)
theorem known_le {L : List KV} (h : ∀ p ∈ L, p.1 < 18446744073709551615) {r : Nat} (hr : ∀ m, m < r → (lookL L m).isSome = true) : r ≤ 18446744073709551615 := by
  rcases Nat.lt_or_ge 18446744073709551615 r with h1 | h1
  · have := hr 18446744073709551615 h1
    rw [look_end h (Nat.le_refl _)] at this
    cases this
  · exact h1
theorem keyUL14 {k : TypeId} (hk : Try.prog.underlying k = some (.int .u64)) {s : Nat} (hs : s < 18446744073709551616) : keyOf Try.prog k (.int .u64 (s : Int)) = some (.int .u64 (s : Int)) := keyOf_int_mk hk (by simp [Lit.wf, IntKind.min, IntKind.max, IntKind.bits, IntKind.signed]; omega)
section
variable {W0 W W' : World} {X S Y : Nat → Prop} {b T mb : Nat} {L : List KV} {mv : Value}
theorem LVal.mods {F F' : Nat → Prop} {o : Option (List UInt8)} {u : Option Value} (h : LVal W F o u) (hm : Mods S W W') (hS : ∀ k, F k → ¬ S k) (hF : ∀ k, F k → F' k) : LVal W' F' o u :=
  ⟨h.none_, fun v hv => by
    obtain ⟨A, c, h1, h2, h3, h4⟩ := h.some_ v hv
    exact ⟨A, c, h1, h2.mods' hm (fun hne a ha hs => hS _ (h3 hne a ha) hs), fun hne a ha => hF _ (h3 hne a ha), h4⟩⟩
theorem LFar.mods {k : Nat} (h : LFar W0 W X b mb k) (hm : Mods S W W') : LFar W0 W' X b mb k := ⟨h.1, h.2.1, h.2.2.1, h.2.2.2.1, Nat.lt_of_lt_of_le h.2.2.2.2 hm.size⟩
theorem LMapH.mods (h : LMapH W0 W X b L T mb) (hm : Mods S W W') (hS : ∀ k, W0.heap.size ≤ k → ¬ X k → k ≠ b → ¬ S k) (hmb : ¬ S mb) : LMapH W0 W' X b L T mb := by
  obtain ⟨n, f, h1, h2, h3, h4, h5⟩ := h
  exact ⟨n, f, h1.mods hm hmb, h2, h3, h4, fun s hs => (h5 s hs).mods hm (fun k hk => hS k hk.1 hk.2.1 hk.2.2.1) (fun k hk => hk.mods hm)⟩
theorem LMapH.ne (h : LMapH W0 W X b L T mb) {g : Nat} {t : TypeId} {cs : Array Value} (hb : Blk W g t cs) : mb ≠ g := by
  obtain ⟨n, f, h1, _⟩ := h
  rintro rfl
  obtain ⟨es, cl, h2⟩ := h1.isMap
  unfold Blk at hb
  rw [h2] at hb
  cases hb
theorem LMapH.lt (h : LMapH W0 W X b L T mb) : mb < W.heap.size := by obtain ⟨n, f, h1, _⟩ := h; exact h1.lt
theorem LMapH.lm (h : LMapH W0 W X b L T mb) : LM W0 X mb := by obtain ⟨n, f, h1, _, h2, h3, _⟩ := h; exact ⟨h2, h3⟩
theorem LMap.mods (h : LMap W0 W X b L T mv) (hm : Mods S W W') (hS : ∀ k, W0.heap.size ≤ k → ¬ X k → k ≠ b → ¬ S k) (hmb : ∀ k, mv = .map (some k) → ¬ S k) : LMap W0 W' X b L T mv := by
  rcases h with h | ⟨mb, rfl, h⟩
  · exact .inl h
  · exact .inr ⟨mb, rfl, h.mods hm hS (hmb _ rfl)⟩
theorem LMap.form (h : LMap W0 W X b L T mv) : ∃ mo, mv = .map mo := by
  rcases h with ⟨rfl, _⟩ | ⟨mb, rfl, _⟩ <;> exact ⟨_, rfl⟩
theorem LrS.lm (h : LrS W0 W X b L T) {V : World} (hm : Mods (LM W0 X) W V) : Mods Nil W0 V := h.m.nil_trans hm (fun k hk => hk.1)
/-- What the caller wrote lies in X, or is new. -/
theorem LrS.keep (h : LrS W0 W X b L T) (hm : Mods S W W') (hS : ∀ k, S k → X k ∧ W0.heap.size ≤ k) : LrS W0 W' X b L T := by
  obtain ⟨mv, r, h0, h1, h2⟩ := h.blk
  refine ⟨h.m.nil_trans hm (fun k hk => (hS k hk).2), h.ok, h.len, fun k hk => Nat.lt_of_lt_of_le (h.old k hk) hm.size, h.lo, h.nx, mv, r, h0, h1.mods hm (fun hk => h.nx (hS _ hk).1), h2.mods hm (fun k _ hx _ hk => hx (hS k hk).1) (fun k hk hs => ?_)⟩
  rcases h2 with ⟨e, _⟩ | ⟨mb, e, q⟩
  · rw [e] at hk; cases hk
  · rw [e] at hk
    injection hk with hk
    injection hk with hk
    subst hk
    exact q.lm.2 (hS _ hs).1
theorem LrS.nil (h : LrS W0 W X b L T) (hm : Mods Nil W W') : LrS W0 W' X b L T := h.keep hm (fun _ h => h.elim)
/-- What the caller laid may be told to be X's. -/
theorem LrS.more (h : LrS W0 W X b L T) (hm : Mods Nil W W') {Y : Nat → Prop} (hY : ∀ k, Y k → LXN X W W' k) : LrS W0 W' Y b L T := by
  have h' := h.nil hm
  obtain ⟨mv, r, h0, h1, h2⟩ := h.blk
  have hold : ∀ k, k < W.heap.size → ¬ X k → ¬ Y k := fun k hk hx hy => by
    rcases hY k hy with h | h
    · exact hx h
    · omega
  refine ⟨h'.m, h'.ok, h'.len, fun k hk => ?_, h.lo, hold _ h1.lt h.nx, mv, r, h0, h1.mods hm (fun h => h), ?_⟩
  · rcases hY k hk with h3 | h3
    · exact Nat.lt_of_lt_of_le (h.old k h3) hm.size
    · exact h3.2
  · rcases h2 with h2 | ⟨mb, rfl, n, f, k1, k2, k3, k4, k5⟩
    · exact .inl h2
    · refine .inr ⟨mb, rfl, n, f, k1.mods hm (fun h => h), k2, k3, hold _ k1.lt k4, fun s hs => (k5 s hs).mods hm (fun _ _ h => h) (fun k hk => ⟨hk.1, hold k hk.2.2.2.2 hk.2.1, hk.2.2.1, hk.2.2.2.1, Nat.lt_of_lt_of_le hk.2.2.2.2 hm.size⟩)⟩
theorem LrS.mono_T (h : LrS W0 W X b L T) {T' : Nat} (hT : T ≤ T') : LrS W0 W X b L T' := by
  obtain ⟨mv, r, h0, h1, h2⟩ := h.blk
  refine ⟨h.m, h.ok, Nat.le_trans h.len hT, h.old, h.lo, h.nx, mv, r, h0, h1, ?_⟩
  rcases h2 with h2 | ⟨mb, e, n, f, k1, k2, k3⟩
  · exact .inl h2
  · exact .inr ⟨mb, e, n, f, k1, Nat.le_trans k2 hT, k3⟩
theorem lrn_new (w : World) : Calls Try.prog 8 #[] w fun e w' => ∃ b, e = .returned (.pointer (some ⟨b, 0, none⟩)) ∧ LrS w w' (fun _ => False) b [] 0 := by
  go_enter Try.func8, Try.ntmps8
  go_wp2
  go_ret
  exact ⟨_, rfl, (Mods.refl _ _).alloc _, (fun p hp => (by cases hp)), Nat.zero_le _, (fun k h => h.elim), Nat.le_refl _, (fun h => h), _, 0, ⟨fun m hm => (by omega), rfl⟩, Blk.new w 53 #[.map none, .int .u64 0, .int .u64 0], .inl ⟨rfl, rfl⟩⟩
theorem zeroBs14 (w : World) : (zeroValue 28).run Try.prog w = .ok (.slice none 0 0) w := by kernel_rfl
theorem look_none14 (k : Value) (w : World) : (Instr.lookup 51 (.map none) k true).run Try.prog w = .ok (.tuple #[.slice none 0 0, .bool false]) w := by kernel_rfl
/-- What the map says of a slot. -/
def LookT (W : World) (L : List KV) (mv : Value) (s : Nat) (S : Nat → Prop) : Prop :=
  ∃ A n c, (∀ V, Mods S W V → (Instr.lookup 51 mv (.int .u64 (s : Int)) true).run Try.prog V = .ok (.tuple #[.slice A n c, .bool (lookL L s).isSome]) V) ∧ (∀ v, lookL L s = some v → v.length = n ∧ n ≤ 100000 ∧ Sl W A c (bts v)) ∧ (lookL L s = none → A = none ∧ n = 0 ∧ c = 0)
theorem LMap.look (h : LMap W0 W X b L T mv) {s : Nat} (hs : s < 18446744073709551616) {S : Nat → Prop} (hS : ∀ k, mv = .map (some k) → ¬ S k) : LookT W L mv s S := by
  rcases h with ⟨rfl, rfl⟩ | ⟨mb, rfl, n, f, h1, h2, h3, h4, h5⟩
  · exact ⟨none, 0, 0, fun V _ => look_none14 _ V, fun v hv => (by rw [lookL_nil] at hv; cases hv), fun _ => ⟨rfl, rfl, rfl⟩⟩
  · have hv := h5 s hs
    cases hl : lookL L s with
    | none =>
      refine ⟨none, 0, 0, fun V hV => ?_, fun v hv => (by rw [hl] at hv; cases hv), fun _ => ⟨rfl, rfl, rfl⟩⟩
      rw [hl]
      exact (h1.mods hV (hS _ rfl)).miss (int_keyed Try.underlying29) Try.underlying51 (keyUL14 Try.underlying29 hs) (hv.none_ hl) (zeroBs14 V)
    | some v =>
      obtain ⟨A, c, e, hsl, _, hle⟩ := hv.some_ v hl
      refine ⟨A, v.length, c, fun V hV => ?_, fun u hu => ?_, fun h => (by rw [hl] at h; cases h)⟩
      · rw [hl]
        exact ((h1.mods hV (hS _ rfl)).look (int_keyed Try.underlying29) Try.underlying51 (keyUL14 Try.underlying29 hs) e (zeroBs14 V)).1
      · rw [hl] at hu
        injection hu with hu
        subst hu
        exact ⟨rfl, hle, hsl⟩
theorem knows_any {W : World} {b : Nat} {s : Nat} {A : Option Addr} {n c : Nat} {r : Bool} (hc : W.cell? ⟨b, 0, none⟩ = some mv) (hl : (Instr.lookup 51 mv (.int .u64 (s : Int)) true).run Try.prog W = .ok (.tuple #[.slice A n c, .bool r]) W) :
    Calls Try.prog 23 #[.pointer (some ⟨b, 0, none⟩), .int .u64 (s : Int)] W fun e w' => e = .returned (.bool r) ∧ W = w' := by
  go_enter Try.func23, Try.ntmps23
  go_wp2
  go_ret
  exact ⟨rfl, rfl⟩
theorem again_any {W : World} {A B : Option Addr} {c d n m : Nat} {xs ys : List UInt8} (hn : xs.length = n) (hm : ys.length = m) (hs : Sl W A c (bts xs)) (hy : Sl W B d (bts ys)) :
    Calls Try.prog 21 #[.slice A n c, .slice B m d] W fun e w' => e = .returned (.int .i64 (if xs = ys then 31 else 33)) ∧ W = w' := by
  have HE := Lib.hid (lequal_any hn hm hs hy)
  clear hs hy hn hm
  by_cases he : xs = ys
  · have hd : decide (xs = ys) = true := by simp [he]
    rw [if_pos he]
    go_enter Try.func21, Try.ntmps21
    go_wp2_with (go_at_call 25; refine HE.out.mono ?_; rintro e w' ⟨he2, rfl⟩; rw [hd] at he2; subst he2)
    go_ret
    exact ⟨rfl, rfl⟩
  · have hd : decide (xs = ys) = false := by simp [he]
    rw [if_neg he]
    go_enter Try.func21, Try.ntmps21
    go_wp2_with (go_at_call 25; refine HE.out.mono ?_; rintro e w' ⟨he2, rfl⟩; rw [hd] at he2; subst he2)
    go_ret
    exact ⟨rfl, rfl⟩
theorem LrS.next (h : LrS W0 W X b L T) (hT : T ≤ 1000) : Calls Try.prog 11 #[.pointer (some ⟨b, 0, none⟩)] W fun e W' => ∃ r : Nat, e = .returned (.int .u64 (r : Int)) ∧ nextP L r ∧ r < 18446744073709551616 ∧ Mods Nil W W' := by
  obtain ⟨mv, r, h0, h1, h2⟩ := h.blk
  have hr := known_le h.ok h0.1
  have c1 := h1.cell 1
  simp at c1
  have H0 := Lib.hid h0
  have HR := Lib.hid hr
  clear h h0 h1 h2 hr
  go_enter Try.func11, Try.ntmps11
  go_wp2
  go_ret
  exact ⟨r, rfl, H0.out, by have := HR.out; omega, Mods.refl _ _⟩
theorem LrS.top_ (h : LrS W0 W X b L T) (hT : T ≤ 1000) : Calls Try.prog 13 #[.pointer (some ⟨b, 0, none⟩)] W fun e W' => e = .returned (.int .u64 (topL L : Int)) ∧ Mods Nil W W' := by
  obtain ⟨mv, r, h0, h1, h2⟩ := h.blk
  have c2 := h1.cell 2
  simp at c2
  clear h h0 h1 h2
  go_enter Try.func13, Try.ntmps13
  go_wp2
  go_ret
  exact ⟨rfl, Mods.refl _ _⟩
end
theorem lrn_learn_nil (W : World) (x : Int) (A : Option Addr) (n c : Nat) : Calls Try.prog 9 #[.pointer none, .int .u64 x, .slice A n c] W fun e W' => e = .returned (.int .i64 1) ∧ Mods Nil W W' := by
  go_enter Try.func9, Try.ntmps9
  go_wp2
  go_ret
  exact ⟨rfl, Mods.refl _ _⟩
theorem lrn_get_nil (W : World) (x : Int) : Calls Try.prog 18 #[.pointer none, .int .u64 x] W fun e W' => ∃ v, e = .returned (.tuple #[v, .bool false]) ∧ Mods Nil W W' := by
  go_enter Try.func18, Try.ntmps18
  go_wp2
  go_ret2
  exact ⟨_, rfl, Mods.refl _ _⟩
theorem lrn_next_nil (W : World) : Calls Try.prog 11 #[.pointer none] W fun e W' => e = .returned (.int .u64 0) ∧ Mods Nil W W' := by
  go_enter Try.func11, Try.ntmps11
  go_wp2
  go_ret
  exact ⟨rfl, Mods.refl _ _⟩
theorem lrn_top_nil (W : World) : Calls Try.prog 13 #[.pointer none] W fun e W' => e = .returned (.int .u64 0) ∧ Mods Nil W W' := by
  go_enter Try.func13, Try.ntmps13
  go_wp2
  go_ret
  exact ⟨rfl, Mods.refl _ _⟩
end Go.Proofs.Ytbpflkjodiaokaa
