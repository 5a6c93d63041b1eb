/- A range over a function whose iterator walks over a map (its own walk's object, laid since, is all that it writes between two rounds): one law, over any program. No program. -/
import Derived.Test.YtpabbhhaagfoeaaRangeM
import Derived.RangeFuncSeq
namespace Go.Proofs.Ytpabbhhaagfoeaa
set_option maxRecDepth 100000
open Go.RowKit
set_option linter.unusedVariables false

/-- Block k is a walk's object. -/
def walkAt (A : World) (k : Nat) : Prop := ∃ o : Obj, A.heap[k]? = some o ∧ o.isWalk = true
theorem walkAt.ne {A : World} {k : Nat} {o : Obj} (h : A.heap[k]? = some o) (hw : o.isWalk = false) : ¬ walkAt A k := by
  rintro ⟨o', h1, h2⟩
  rw [h] at h1
  injection h1 with h1
  subst h1
  rw [hw] at h2
  cases h2
/-- What a round may write so that walks are kept. -/
theorem KeepsWalks.of_mods {S : Nat → Prop} {W W' : World} (hm : Mods S W W') (hS : ∀ k o, S k → W.heap[k]? = some o → o.isWalk = false) : KeepsWalks W W' :=
  ⟨hm.size, fun k o hk ho => by
    rw [hm.block k (Array.getElem?_eq_some_iff.1 hk).1 (fun h => by rw [hS k o h hk] at ho; cases ho)]
    exact hk⟩

variable {P : Program}

/-- The range's law: the mark lies at w's end, the loop's record behind it. -/
theorem wpIn_rangeFunc_W {α : Type} {n : Nat} {g : Operand} {ps : Array Tmp} {assign body : Code} {Q : Exit → Act → World → Prop} {a : Act} {w : World}
    {gf : Nat} {lb : Array Value} (hg : a.eval g = .func (.func gf) #[] lb) (eg : ∀ args w, (callFunc gf args).run P w = .ok (.enter gf args) w)
    {encs : α → Array Value} (hps : ∀ x, (encs x).size = ps.size)
    (I : List α → World → Prop) (G : List α → α → Prop) (Ax : α → Act → World → Prop)
    (hI : ∀ pre A B, I pre A → Mods (fun k => w.heap.size + 2 ≤ k ∧ walkAt A k ∨ k = w.heap.size + 1) A B → I pre B)
    (hAx : ∀ x a' A B, Ax x a' A → Mods (fun k => k = w.heap.size + 1) A B → Ax x a' B)
    (S : List α → Prop)
    (hseq : ∀ (J : List α → World → Prop) (W : World), Mods Nil w W → w.heap.size + 2 ≤ W.heap.size → (∀ pre A B, J pre A → Mods (fun k => w.heap.size + 2 ≤ k ∧ walkAt A k) A B → J pre B) →
      (∀ pre x W1, J pre W1 → G pre x → YieldAt Fence.wide (n - 1 - 1) P (w.heap.size + 1) (encs x) W1 fun e W' =>
        e = .returned (.bool true) ∧ J (pre ++ [x]) W' ∧ KeepsWalks W1 W') → J [] W →
      CallsIn Fence.wide (n - 1) P gf (#[.func (.yield (w.heap.size + 1)) #[] #[]] ++ lb) W fun e W' => (∃ v, e = .returned v) ∧ ∃ xs, S xs ∧ J xs W')
    (h0 : I [] w)
    (hassign : ∀ pre x W (K' : Act → World → Prop), w.heap.size + 2 ≤ W.heap.size → I pre W → G pre x → (∀ a' W', Mods Nil W W' → I pre W' → Ax x a' W' → K' a' W') →
      assign.wpIn (Fence.wide.inRound (w.heap.size + 1)) (n - 1 - 1) P (Exit.then K' (fun _ _ _ => False)) { tmps := (ps.zip (encs x)).foldl (fun t (p, v) => t.setIfInBounds p v) a.tmps, defers := [] } W)
    (hbody : ∀ pre x a' W, I pre W → G pre x → Ax x a' W → w.heap.size + 2 ≤ W.heap.size → (∃ o, W.heap[w.heap.size + 1]? = some (.loop o)) → W.heap[w.heap.size]? = some (.deferred (some [])) →
      body.wpIn (Fence.wide.inRound (w.heap.size + 1)) (n - 1 - 1) P (endPost fun W' => KeepsWalks W W' ∧ W'.heap[w.heap.size + 1]? = W.heap[w.heap.size + 1]? ∧ W'.heap[w.heap.size]? = W.heap[w.heap.size]? ∧ I (pre ++ [x]) W') a' W)
    (hdone : ∀ xs W, S xs → I xs W → W.heap[w.heap.size]? = some (.deferred (some [])) → Q .normal { a with defers := { target := .collected w.heap.size, args := #[] } :: a.defers } W) :
    (Code.rangeFunc g ps assign body).wpIn Fence.wide n P Q a w := by
  refine wpIn_rangeFunc ?_
  intro fn hfn
  rw [show Fence.wide.round = none from rfl]
  obtain ⟨rec, hrec⟩ : ∃ rec : LoopState → Option Code → Loop, rec = fun st pe => { state := st, pending := pe, fn, tmps := a.tmps, params := ps, assign, body, defers := w.heap.size } := ⟨_, rfl⟩
  obtain ⟨W1, hW1⟩ : ∃ W1, (w.alloc (.deferred (some []))).alloc (.loop (rec .ready none)) = W1 := ⟨_, rfl⟩
  have hL1 : W1.heap[w.heap.size + 1]? = some (.loop (rec .ready none)) := by
    rw [← hW1]; have := World.alloc_heap_new (w.alloc (.deferred (some []))) (.loop (rec .ready none)); rwa [World.size_alloc] at this
  have hK1' : W1.heap[w.heap.size]? = some (.deferred (some [])) := by
    rw [← hW1]; exact (Below.heap_alloc _ _ _ (by simp)).trans (World.alloc_heap_new w _)
  have hm1 : Mods Nil w W1 := by rw [← hW1]; exact ((Mods.refl _ _).alloc _).alloc _
  have hI1 : I [] W1 := hI _ _ _ h0 (hm1.mono (fun _ _ h => h.elim))
  refine ⟨w.heap.size + 1, [{ target := .collected w.heap.size, args := #[] }], W1, { target := .fn (.func gf) lb, args := #[.func (.yield (w.heap.size + 1)) #[] #[]] }, W1, gf,
    #[.func (.yield (w.heap.size + 1)) #[] #[]] ++ lb, W1, ?_, ?_, fun _ _ => trivial, ?_, fun h => by simp [Fence.wide] at h, ?_⟩
  · rw [← hW1, hrec]; exact run_enterLoop_outer _ _ _ _ _
  · simp only [resolve, hg]
    simp [go_sem]
  · simp [invoke, go_sem, eg]
  · refine (hseq (fun pre W => I pre W ∧ W.heap[w.heap.size + 1]? = some (.loop (rec .ready none)) ∧ W.heap[w.heap.size]? = some (.deferred (some [])))
      W1 hm1 (by rw [← hW1]; simp) (fun pre A B hJ hm => ?_) ?_ ⟨hI1, hL1, hK1'⟩).mono ?_
    · obtain ⟨hi, hl, hk⟩ := hJ
      refine ⟨hI _ _ _ hi (hm.mono (fun _ _ h => .inl h)), ?_, ?_⟩
      · rw [hm.block _ (Array.getElem?_eq_some_iff.1 hl).1 (fun h => by have := h.1; omega)]; exact hl
      · rw [hm.block _ (Array.getElem?_eq_some_iff.1 hk).1 (fun h => by have := h.1; omega)]; exact hk
    · rintro pre x W ⟨hi, hl, hk⟩ hgx
      have hy := run_yield (P := P) (args := encs x) hl (by rw [hrec]; exact hps x)
      rw [hrec] at hy
      refine ⟨fn, _, assign, body, hy, roundIn_of_wpIn hfn (hassign pre x W _ (Array.getElem?_eq_some_iff.1 hl).1 hi hgx ?_)⟩
      clear hy
      intro a' Wa hma hia hax
      have hla : Wa.heap[w.heap.size + 1]? = some (.loop (rec .ready none)) := by
        rw [hma.block _ (Array.getElem?_eq_some_iff.1 hl).1 (fun h => h)]; exact hl
      have hka : Wa.heap[w.heap.size]? = some (.deferred (some [])) := by
        rw [hma.block _ (Array.getElem?_eq_some_iff.1 hk).1 (fun h => h)]; exact hk
      have hlt : w.heap.size + 1 < Wa.heap.size := (Array.getElem?_eq_some_iff.1 hla).1
      refine ⟨_, run_beginRound hla (by rw [hrec]), ?_⟩
      have hl2 : (Wa.putObj (w.heap.size + 1) (.loop { rec .ready none with state := .busy })).heap[w.heap.size + 1]? = some (.loop { rec .ready none with state := .busy }) := World.putObj_heap_same hlt
      have hk2 : (Wa.putObj (w.heap.size + 1) (.loop { rec .ready none with state := .busy })).heap[w.heap.size]? = some (.deferred (some [])) := (World.putObj_heap_other (by omega)).trans hka
      have hm2 : Mods (fun k => k = w.heap.size + 1) Wa (Wa.putObj (w.heap.size + 1) (.loop { rec .ready none with state := .busy })) := Mods.putObj (S := fun k => k = w.heap.size + 1) (Mods.refl _ _) (fun _ => rfl) _
      refine wpIn_mono (hbody pre x a' _ (hI _ _ _ hia (hm2.mono (fun _ _ h => .inr h))) hgx (hAx _ _ _ _ hax hm2) (by simp; omega) ⟨_, hl2⟩ hk2) ?_
      rintro e a3 W3 hp
      cases e with
      | normal =>
        obtain ⟨hk3', hl3', hk3'', hi3⟩ := hp
        have hl3 : W3.heap[w.heap.size + 1]? = some (.loop { rec .ready none with state := .busy }) := hl3'.trans hl2
        have hk3 : W3.heap[w.heap.size]? = some (.deferred (some [])) := hk3''.trans hk2
        have hr := run_endRound (P := P) none hl3
        rw [hrec] at hr
        refine ⟨_, _, hr, rfl, ⟨hI _ _ _ hi3 ((Mods.refl _ _).putObj (fun _ => .inr rfl) _), ?_, (World.putObj_heap_other (by omega)).trans hk3⟩, ?_⟩
        · rw [World.putObj_heap_same (Array.getElem?_eq_some_iff.1 hl3).1, hrec]; rfl
        · refine KeepsWalks.trans ?_ (KeepsWalks.putObj _ hl3 rfl)
          refine KeepsWalks.trans (KeepsWalks.of_mods hma (fun _ _ h => h.elim)) ?_
          exact (KeepsWalks.putObj _ hla rfl).trans hk3'
      | ret => exact hp.elim
      | exit id => exact hp.elim
      | goto t => exact hp.elim
      | panic ch => exact hp.elim
      | outgrown => exact hp.elim
    · rintro e W2 ⟨⟨v, rfl⟩, xs, hS, hi, hl, hk⟩
      have he := run_endLoop (P := P) hl (by rw [hrec]; simp)
      rw [hrec] at he
      exact ⟨none, _, he, hdone xs _ hS (hI _ _ _ hi ((Mods.refl _ _).putObj (fun _ => .inr rfl) _)) ((World.putObj_heap_other (by omega)).trans hk)⟩
end Go.Proofs.Ytpabbhhaagfoeaa
