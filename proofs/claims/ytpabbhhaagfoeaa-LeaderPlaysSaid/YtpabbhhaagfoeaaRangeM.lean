/- Texts laid as one: Range, RangeX. -/
import Derived.Test.YtpabbhhaagfoeaaBaseM
import Derived.RangeFuncNested
import Derived.RangeFuncBound
import Derived.RangeFuncLeaves
import Derived.Shelf.Abstract
import Derived.Shelf.RegionOpen
import Derived.WalkKit
import Derived.OwnWalkIn
import Derived.TacticsInMore
import Derived.LoopNIn
import Derived.LoopIn

section
/- A range over a function whose iterator writes cells of its own between two rounds: one law, over any program. No program. -/
namespace Go.Proofs.Ytpabbhhaagfoeaa
set_option maxRecDepth 100000
open Go.RowKit
set_option linter.unusedVariables false

theorem Mods.putObj {S : Nat → Prop} {w w' : World} (h : Mods S w w') {r : Nat} (hr : r < w.heap.size → S r) (o : Obj) : Mods S w (w'.putObj r o) :=
  ⟨h.os, h.tape, h.output, by simpa using h.size, fun k hk hn => by
    rw [World.putObj_heap_other (fun e => hn (by subst e; exact hr hk))]
    exact h.block k hk hn⟩

/-- A round's body is left at its end alone. -/
def endPost (R : World → Prop) : Exit → Act → World → Prop
  | .normal, _, W => R W
  | _, _, _ => False

variable {P : Program}

/-- The range's law: T: the blocks that the iterator writes between two rounds; K: those that a round may write. The mark lies at w's end, the loop's record behind it. -/
theorem wpIn_rangeFunc_J {α : Type} {n : Nat} {g : Operand} {ps : Array Tmp} {assign body : Code} {Q : Exit → Act → World → Prop} {a : Act} {w : World}
    {gf : Nat} {lb : Array Value} (hg : a.eval g = .func (.func gf) #[] lb) (eg : ∀ args w, (callFunc gf args).run P w = .ok (.enter gf args) w)
    {encs : α → Array Value} (hps : ∀ x, (encs x).size = ps.size)
    (T K : Nat → Prop) (hT : ∀ i, T i → i < w.heap.size) (hK0 : ¬ K w.heap.size) (hK1 : ¬ K (w.heap.size + 1))
    (I : List α → World → Prop) (G : List α → α → World → Prop) (Ax : α → Act → World → Prop)
    (hI : ∀ pre A B, I pre A → Mods (fun k => T k ∨ k = w.heap.size + 1) A B → I pre B)
    (hG : ∀ pre x A B, G pre x A → Mods (fun k => k = w.heap.size + 1) A B → G pre x B)
    (hAx : ∀ x a' A B, Ax x a' A → Mods (fun k => k = w.heap.size + 1) A B → Ax x a' B)
    (S : List α → Prop)
    (hseq : ∀ (J : List α → World → Prop) (W : World), Mods Nil w W → w.heap.size + 2 ≤ W.heap.size → (∀ pre A B, J pre A → Mods T A B → J pre B) →
      (∀ pre x W1, J pre W1 → G pre x W1 → YieldAt Fence.wide (n - 1 - 1) P (w.heap.size + 1) (encs x) W1 fun e W' =>
        e = .returned (.bool true) ∧ J (pre ++ [x]) W' ∧ Mods (fun k => K k ∨ k = w.heap.size + 1) W1 W') → J [] W →
      CallsIn Fence.wide (n - 1) P gf (#[.func (.yield (w.heap.size + 1)) #[] #[]] ++ lb) W fun e W' => (∃ v, e = .returned v) ∧ ∃ xs, S xs ∧ J xs W')
    (h0 : I [] w)
    (hassign : ∀ pre x W (K' : Act → World → Prop), w.heap.size + 2 ≤ W.heap.size → I pre W → G pre x W → (∀ a' W', Mods Nil W W' → I pre W' → G pre x W' → Ax x a' W' → K' a' W') →
      assign.wpIn (Fence.wide.inRound (w.heap.size + 1)) (n - 1 - 1) P (Exit.then K' (fun _ _ _ => False)) { tmps := (ps.zip (encs x)).foldl (fun t (p, v) => t.setIfInBounds p v) a.tmps, defers := [] } W)
    (hbody : ∀ pre x a' W, I pre W → G pre x W → Ax x a' W → w.heap.size + 2 ≤ W.heap.size →
      body.wpIn (Fence.wide.inRound (w.heap.size + 1)) (n - 1 - 1) P (endPost fun W' => Mods K W W' ∧ I (pre ++ [x]) W') a' W)
    (hdone : ∀ xs W, S xs → I xs W → W.heap[w.heap.size]? = some (.deferred (some [])) → Q .normal { a with defers := { target := .collected w.heap.size, args := #[] } :: a.defers } W) :
    (Code.rangeFunc g ps assign body).wpIn Fence.wide n P Q a w := by
  refine wpIn_rangeFunc ?_
  intro fn hfn
  rw [show Fence.wide.round = none from rfl]
  obtain ⟨rec, hrec⟩ : ∃ rec : LoopState → Option Code → Loop, rec = fun st pe => { state := st, pending := pe, fn, tmps := a.tmps, params := ps, assign, body, defers := w.heap.size } := ⟨_, rfl⟩
  obtain ⟨W1, hW1⟩ : ∃ W1, (w.alloc (.deferred (some []))).alloc (.loop (rec .ready none)) = W1 := ⟨_, rfl⟩
  have hL1 : W1.heap[w.heap.size + 1]? = some (.loop (rec .ready none)) := by
    rw [← hW1]; have := World.alloc_heap_new (w.alloc (.deferred (some []))) (.loop (rec .ready none)); rwa [World.size_alloc] at this
  have hK1' : W1.heap[w.heap.size]? = some (.deferred (some [])) := by
    rw [← hW1]; exact (Below.heap_alloc _ _ _ (by simp)).trans (World.alloc_heap_new w _)
  have hm1 : Mods Nil w W1 := by rw [← hW1]; exact ((Mods.refl _ _).alloc _).alloc _
  have hI1 : I [] W1 := hI _ _ _ h0 (hm1.mono (fun _ _ h => h.elim))
  refine ⟨w.heap.size + 1, [{ target := .collected w.heap.size, args := #[] }], W1, { target := .fn (.func gf) lb, args := #[.func (.yield (w.heap.size + 1)) #[] #[]] }, W1, gf,
    #[.func (.yield (w.heap.size + 1)) #[] #[]] ++ lb, W1, ?_, ?_, fun _ _ => trivial, ?_, fun h => by simp [Fence.wide] at h, ?_⟩
  · rw [← hW1, hrec]; exact run_enterLoop_outer _ _ _ _ _
  · simp only [resolve, hg]
    simp [go_sem]
  · simp [invoke, go_sem, eg]
  · refine (hseq (fun pre W => I pre W ∧ W.heap[w.heap.size + 1]? = some (.loop (rec .ready none)) ∧ W.heap[w.heap.size]? = some (.deferred (some [])))
      W1 hm1 (by rw [← hW1]; simp) (fun pre A B hJ hm => ?_) ?_ ⟨hI1, hL1, hK1'⟩).mono ?_
    · obtain ⟨hi, hl, hk⟩ := hJ
      refine ⟨hI _ _ _ hi (hm.mono (fun _ _ h => .inl h)), ?_, ?_⟩
      · rw [hm.block _ (Array.getElem?_eq_some_iff.1 hl).1 (fun h => by have := hT _ h; omega)]; exact hl
      · rw [hm.block _ (Array.getElem?_eq_some_iff.1 hk).1 (fun h => by have := hT _ h; omega)]; exact hk
    · rintro pre x W ⟨hi, hl, hk⟩ hgx
      have hy := run_yield (P := P) (args := encs x) hl (by rw [hrec]; exact hps x)
      rw [hrec] at hy
      refine ⟨fn, _, assign, body, hy, roundIn_of_wpIn hfn (hassign pre x W _ (Array.getElem?_eq_some_iff.1 hl).1 hi hgx ?_)⟩
      clear hy
      intro a' Wa hma hia hga hax
      have hla : Wa.heap[w.heap.size + 1]? = some (.loop (rec .ready none)) := by
        rw [hma.block _ (Array.getElem?_eq_some_iff.1 hl).1 (fun h => h)]; exact hl
      have hka : Wa.heap[w.heap.size]? = some (.deferred (some [])) := by
        rw [hma.block _ (Array.getElem?_eq_some_iff.1 hk).1 (fun h => h)]; exact hk
      have hlt : w.heap.size + 1 < Wa.heap.size := (Array.getElem?_eq_some_iff.1 hla).1
      refine ⟨_, run_beginRound hla (by rw [hrec]), ?_⟩
      have hl2 : (Wa.putObj (w.heap.size + 1) (.loop { rec .ready none with state := .busy })).heap[w.heap.size + 1]? = some (.loop { rec .ready none with state := .busy }) := World.putObj_heap_same hlt
      have hk2 : (Wa.putObj (w.heap.size + 1) (.loop { rec .ready none with state := .busy })).heap[w.heap.size]? = some (.deferred (some [])) := (World.putObj_heap_other (by omega)).trans hka
      have hm2 : Mods (fun k => k = w.heap.size + 1) Wa (Wa.putObj (w.heap.size + 1) (.loop { rec .ready none with state := .busy })) := Mods.putObj (S := fun k => k = w.heap.size + 1) (Mods.refl _ _) (fun _ => rfl) _
      refine wpIn_mono (hbody pre x a' _ (hI _ _ _ hia (hm2.mono (fun _ _ h => .inr h))) (hG _ _ _ _ hga hm2) (hAx _ _ _ _ hax hm2) (by simp; omega)) ?_
      rintro e a3 W3 hp
      cases e with
      | normal =>
        obtain ⟨hm3, hi3⟩ := hp
        have hl3 : W3.heap[w.heap.size + 1]? = some (.loop { rec .ready none with state := .busy }) := by
          rw [hm3.block _ (by simp; omega) hK1]; exact hl2
        have hk3 : W3.heap[w.heap.size]? = some (.deferred (some [])) := by
          rw [hm3.block _ (by simp; omega) hK0]; exact hk2
        have hr := run_endRound (P := P) none hl3
        rw [hrec] at hr
        refine ⟨_, _, hr, rfl, ⟨hI _ _ _ hi3 ((Mods.refl _ _).putObj (fun _ => .inr rfl) _), ?_, (World.putObj_heap_other (by omega)).trans hk3⟩, ?_⟩
        · rw [World.putObj_heap_same (Array.getElem?_eq_some_iff.1 hl3).1, hrec]; rfl
        · refine Mods.putObj ?_ (fun _ => .inr rfl) _
          refine (hma.mono (T := fun k => K k ∨ k = w.heap.size + 1) (fun _ _ h => h.elim)).trans ?_
          exact (hm2.mono (fun _ _ h => .inr h)).trans (hm3.mono (fun _ _ h => .inl h))
      | ret => exact hp.elim
      | exit id => exact hp.elim
      | goto t => exact hp.elim
      | panic ch => exact hp.elim
      | outgrown => exact hp.elim
    · rintro e W2 ⟨⟨v, rfl⟩, xs, hS, hi, hl, hk⟩
      have he := run_endLoop (P := P) hl (by rw [hrec]; simp)
      rw [hrec] at he
      exact ⟨none, _, he, hdone xs _ hS (hI _ _ _ hi ((Mods.refl _ _).putObj (fun _ => .inr rfl) _)) ((World.putObj_heap_other (by omega)).trans hk)⟩
end Go.Proofs.Ytpabbhhaagfoeaa
end

section
/- A range over a function whose body may return: one law, over any program (Range's law with one way out more). No program. -/
namespace Go.Proofs.Ytpabbhhaagfoeaa
set_option maxRecDepth 100000
open Go.RowKit
set_option linter.unusedVariables false

/-- A round's body is left at its end, or by a return. -/
def endPostX (R Rx : World → Prop) : Exit → Act → World → Prop
  | .normal, _, W => R W
  | .ret, _, W => Rx W
  | _, _, _ => False

variable {P : Program}

/-- A piece of code that is left at its end alone: whatever else is asked of the other ways out falls away. -/
def onlyN (R : Act → World → Prop) : Exit → Act → World → Prop
  | .normal, a, w => R a w
  | _, _, _ => False
theorem wp_only {c : Code} {Q : Exit → Act → World → Prop} {a : Act} {w : World} (h : c.wp P (onlyN (fun a w => Q .normal a w)) a w) : c.wp P Q a w :=
  wp_mono h (fun e a w hq => by cases e with | normal => exact hq | ret => exact hq.elim | exit id => exact hq.elim | goto t => exact hq.elim | panic ch => exact hq.elim | outgrown => exact hq.elim)

theorem wpIn_rangeFunc_X {α : Type} {n : Nat} {g : Operand} {ps : Array Tmp} {assign body : Code} {Q : Exit → Act → World → Prop} {a : Act} {w : World}
    {gf : Nat} {lb : Array Value} (hg : a.eval g = .func (.func gf) #[] lb) (eg : ∀ args w, (callFunc gf args).run P w = .ok (.enter gf args) w)
    {encs : α → Array Value} (hps : ∀ x, (encs x).size = ps.size)
    (T K : Nat → Prop) (hT : ∀ i, T i → i < w.heap.size) (hK0 : ¬ K w.heap.size) (hK1 : ¬ K (w.heap.size + 1))
    (I Ix : List α → World → Prop) (G : List α → α → World → Prop) (Ax : α → Act → World → Prop)
    (hI : ∀ pre A B, I pre A → Mods (fun k => T k ∨ k = w.heap.size + 1) A B → I pre B)
    (hIx : ∀ pre A B, Ix pre A → Mods (fun k => T k ∨ k = w.heap.size + 1) A B → Ix pre B)
    (hG : ∀ pre x A B, G pre x A → Mods (fun k => k = w.heap.size + 1) A B → G pre x B)
    (hAx : ∀ x a' A B, Ax x a' A → Mods (fun k => k = w.heap.size + 1) A B → Ax x a' B)
    (S : List α → Prop)
    (hseq : ∀ (J Jx : List α → World → Prop) (W : World), Mods Nil w W → w.heap.size + 2 ≤ W.heap.size → (∀ pre A B, J pre A → Mods T A B → J pre B) → (∀ pre A B, Jx pre A → Mods T A B → Jx pre B) →
      (∀ pre x W1, J pre W1 → G pre x W1 → YieldAt Fence.wide (n - 1 - 1) P (w.heap.size + 1) (encs x) W1 fun e W' =>
        (e = .returned (.bool true) ∧ J (pre ++ [x]) W' ∧ Mods (fun k => K k ∨ k = w.heap.size + 1) W1 W') ∨
        (e = .returned (.bool false) ∧ Jx (pre ++ [x]) W' ∧ Mods (fun k => K k ∨ k = w.heap.size + 1) W1 W')) → J [] W →
      CallsIn Fence.wide (n - 1) P gf (#[.func (.yield (w.heap.size + 1)) #[] #[]] ++ lb) W fun e W' => (∃ v, e = .returned v) ∧ ((∃ xs, S xs ∧ J xs W') ∨ ∃ xs, Jx xs W'))
    (h0 : I [] w)
    (hassign : ∀ pre x W (K' : Act → World → Prop), w.heap.size + 2 ≤ W.heap.size → I pre W → G pre x W → (∀ a' W', Mods Nil W W' → I pre W' → G pre x W' → Ax x a' W' → K' a' W') →
      assign.wpIn (Fence.wide.inRound (w.heap.size + 1)) (n - 1 - 1) P (Exit.then K' (fun _ _ _ => False)) { tmps := (ps.zip (encs x)).foldl (fun t (p, v) => t.setIfInBounds p v) a.tmps, defers := [] } W)
    (hbody : ∀ pre x a' W, I pre W → G pre x W → Ax x a' W → w.heap.size + 2 ≤ W.heap.size →
      body.wpIn (Fence.wide.inRound (w.heap.size + 1)) (n - 1 - 1) P (endPostX (fun W' => Mods K W W' ∧ I (pre ++ [x]) W') (fun W' => Mods K W W' ∧ Ix (pre ++ [x]) W')) a' W)
    (hdone : ∀ xs W, S xs → I xs W → W.heap[w.heap.size]? = some (.deferred (some [])) → Q .normal { a with defers := { target := .collected w.heap.size, args := #[] } :: a.defers } W)
    (hstop : ∀ xs W, Ix xs W → W.heap[w.heap.size]? = some (.deferred (some [])) → Q .ret { a with defers := { target := .collected w.heap.size, args := #[] } :: a.defers } W) :
    (Code.rangeFunc g ps assign body).wpIn Fence.wide n P Q a w := by
  refine wpIn_rangeFunc ?_
  intro fn hfn
  rw [show Fence.wide.round = none from rfl]
  obtain ⟨rec, hrec⟩ : ∃ rec : LoopState → Option Code → Loop, rec = fun st pe => { state := st, pending := pe, fn, tmps := a.tmps, params := ps, assign, body, defers := w.heap.size } := ⟨_, rfl⟩
  obtain ⟨W1, hW1⟩ : ∃ W1, (w.alloc (.deferred (some []))).alloc (.loop (rec .ready none)) = W1 := ⟨_, rfl⟩
  have hL1 : W1.heap[w.heap.size + 1]? = some (.loop (rec .ready none)) := by
    rw [← hW1]; have := World.alloc_heap_new (w.alloc (.deferred (some []))) (.loop (rec .ready none)); rwa [World.size_alloc] at this
  have hK1' : W1.heap[w.heap.size]? = some (.deferred (some [])) := by
    rw [← hW1]; exact (Below.heap_alloc _ _ _ (by simp)).trans (World.alloc_heap_new w _)
  have hm1 : Mods Nil w W1 := by rw [← hW1]; exact ((Mods.refl _ _).alloc _).alloc _
  have hI1 : I [] W1 := hI _ _ _ h0 (hm1.mono (fun _ _ h => h.elim))
  refine ⟨w.heap.size + 1, [{ target := .collected w.heap.size, args := #[] }], W1, { target := .fn (.func gf) lb, args := #[.func (.yield (w.heap.size + 1)) #[] #[]] }, W1, gf,
    #[.func (.yield (w.heap.size + 1)) #[] #[]] ++ lb, W1, ?_, ?_, fun _ _ => trivial, ?_, fun h => by simp [Fence.wide] at h, ?_⟩
  · rw [← hW1, hrec]; exact run_enterLoop_outer _ _ _ _ _
  · simp only [resolve, hg]
    simp [go_sem]
  · simp [invoke, go_sem, eg]
  · refine (hseq (fun pre W => I pre W ∧ W.heap[w.heap.size + 1]? = some (.loop (rec .ready none)) ∧ W.heap[w.heap.size]? = some (.deferred (some [])))
      (fun pre W => Ix pre W ∧ W.heap[w.heap.size + 1]? = some (.loop (rec .done (some .ret))) ∧ W.heap[w.heap.size]? = some (.deferred (some [])))
      W1 hm1 (by rw [← hW1]; simp) (fun pre A B hJ hm => ?_) (fun pre A B hJ hm => ?_) ?_ ⟨hI1, hL1, hK1'⟩).mono ?_
    · obtain ⟨hi, hl, hk⟩ := hJ
      refine ⟨hI _ _ _ hi (hm.mono (fun _ _ h => .inl h)), ?_, ?_⟩
      · rw [hm.block _ (Array.getElem?_eq_some_iff.1 hl).1 (fun h => by have := hT _ h; omega)]; exact hl
      · rw [hm.block _ (Array.getElem?_eq_some_iff.1 hk).1 (fun h => by have := hT _ h; omega)]; exact hk
    · obtain ⟨hi, hl, hk⟩ := hJ
      refine ⟨hIx _ _ _ hi (hm.mono (fun _ _ h => .inl h)), ?_, ?_⟩
      · rw [hm.block _ (Array.getElem?_eq_some_iff.1 hl).1 (fun h => by have := hT _ h; omega)]; exact hl
      · rw [hm.block _ (Array.getElem?_eq_some_iff.1 hk).1 (fun h => by have := hT _ h; omega)]; exact hk
    · rintro pre x W ⟨hi, hl, hk⟩ hgx
      have hy := run_yield (P := P) (args := encs x) hl (by rw [hrec]; exact hps x)
      rw [hrec] at hy
      refine ⟨fn, _, assign, body, hy, roundIn_of_wpIn hfn (hassign pre x W _ (Array.getElem?_eq_some_iff.1 hl).1 hi hgx ?_)⟩
      clear hy
      intro a' Wa hma hia hga hax
      have hla : Wa.heap[w.heap.size + 1]? = some (.loop (rec .ready none)) := by
        rw [hma.block _ (Array.getElem?_eq_some_iff.1 hl).1 (fun h => h)]; exact hl
      have hka : Wa.heap[w.heap.size]? = some (.deferred (some [])) := by
        rw [hma.block _ (Array.getElem?_eq_some_iff.1 hk).1 (fun h => h)]; exact hk
      have hlt : w.heap.size + 1 < Wa.heap.size := (Array.getElem?_eq_some_iff.1 hla).1
      refine ⟨_, run_beginRound hla (by rw [hrec]), ?_⟩
      have hl2 : (Wa.putObj (w.heap.size + 1) (.loop { rec .ready none with state := .busy })).heap[w.heap.size + 1]? = some (.loop { rec .ready none with state := .busy }) := World.putObj_heap_same hlt
      have hk2 : (Wa.putObj (w.heap.size + 1) (.loop { rec .ready none with state := .busy })).heap[w.heap.size]? = some (.deferred (some [])) := (World.putObj_heap_other (by omega)).trans hka
      have hm2 : Mods (fun k => k = w.heap.size + 1) Wa (Wa.putObj (w.heap.size + 1) (.loop { rec .ready none with state := .busy })) := Mods.putObj (S := fun k => k = w.heap.size + 1) (Mods.refl _ _) (fun _ => rfl) _
      refine wpIn_mono (hbody pre x a' _ (hI _ _ _ hia (hm2.mono (fun _ _ h => .inr h))) (hG _ _ _ _ hga hm2) (hAx _ _ _ _ hax hm2) (by simp; omega)) ?_
      rintro e a3 W3 hp
      cases e with
      | normal =>
        obtain ⟨hm3, hi3⟩ := hp
        have hl3 : W3.heap[w.heap.size + 1]? = some (.loop { rec .ready none with state := .busy }) := by
          rw [hm3.block _ (by simp; omega) hK1]; exact hl2
        have hk3 : W3.heap[w.heap.size]? = some (.deferred (some [])) := by
          rw [hm3.block _ (by simp; omega) hK0]; exact hk2
        have hr := run_endRound (P := P) none hl3
        rw [hrec] at hr
        refine ⟨_, _, hr, .inl ⟨rfl, ⟨hI _ _ _ hi3 ((Mods.refl _ _).putObj (fun _ => .inr rfl) _), ?_, (World.putObj_heap_other (by omega)).trans hk3⟩, ?_⟩⟩
        · rw [World.putObj_heap_same (Array.getElem?_eq_some_iff.1 hl3).1, hrec]; rfl
        · refine Mods.putObj ?_ (fun _ => .inr rfl) _
          refine (hma.mono (T := fun k => K k ∨ k = w.heap.size + 1) (fun _ _ h => h.elim)).trans ?_
          exact (hm2.mono (fun _ _ h => .inr h)).trans (hm3.mono (fun _ _ h => .inl h))
      | ret =>
        obtain ⟨hm3, hi3⟩ := hp
        have hl3 : W3.heap[w.heap.size + 1]? = some (.loop { rec .ready none with state := .busy }) := by
          rw [hm3.block _ (by simp; omega) hK1]; exact hl2
        have hk3 : W3.heap[w.heap.size]? = some (.deferred (some [])) := by
          rw [hm3.block _ (by simp; omega) hK0]; exact hk2
        have hr := run_endRound (P := P) (some .ret) hl3
        rw [hrec] at hr
        refine ⟨_, _, hr, .inr ⟨rfl, ⟨hIx _ _ _ hi3 ((Mods.refl _ _).putObj (fun _ => .inr rfl) _), ?_, (World.putObj_heap_other (by omega)).trans hk3⟩, ?_⟩⟩
        · rw [World.putObj_heap_same (Array.getElem?_eq_some_iff.1 hl3).1, hrec]; rfl
        · refine Mods.putObj ?_ (fun _ => .inr rfl) _
          refine (hma.mono (T := fun k => K k ∨ k = w.heap.size + 1) (fun _ _ h => h.elim)).trans ?_
          exact (hm2.mono (fun _ _ h => .inr h)).trans (hm3.mono (fun _ _ h => .inl h))
      | exit id => exact hp.elim
      | goto t => exact hp.elim
      | panic ch => exact hp.elim
      | outgrown => exact hp.elim
    · rintro e W2 ⟨⟨v, rfl⟩, (⟨xs, hS, hi, hl, hk⟩ | ⟨xs, hi, hl, hk⟩)⟩
      · have he := run_endLoop (P := P) hl (by rw [hrec]; simp)
        rw [hrec] at he
        exact ⟨none, _, he, hdone xs _ hS (hI _ _ _ hi ((Mods.refl _ _).putObj (fun _ => .inr rfl) _)) ((World.putObj_heap_other (by omega)).trans hk)⟩
      · have he := run_endLoop (P := P) hl (by rw [hrec]; simp)
        rw [hrec] at he
        exact ⟨some .ret, _, he, wpIn_ret (hstop xs _ (hIx _ _ _ hi ((Mods.refl _ _).putObj (fun _ => .inr rfl) _)) ((World.putObj_heap_other (by omega)).trans hk))⟩
end Go.Proofs.Ytpabbhhaagfoeaa
end
