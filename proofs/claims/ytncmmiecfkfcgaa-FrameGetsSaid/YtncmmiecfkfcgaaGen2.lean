/- Plain laws more: new blocks as slices, their place named. -/
import Derived.Test.YtncmmiecfkfcgaaGen
namespace Go.Proofs.Ytncmmiecfkfcgaa
open Go.RowKit

/-- A new block of cells as a slice, its place named. -/
theorem build_at {w : World} {cs : Array Value} {t : TypeId} {g n : Nat} {xs : List Value} {fr : Nat × Nat} (hg : g = w.heap.size) (hc : cs.toList = xs) (hn : xs.length = n) (hm : n ≤ maxLen) : Sl (w.alloc (.cells cs t fr)) (some ⟨g, 0, none⟩) n xs := by
  subst hg; subst hc; subst hn
  simpa using build_sl w cs t fr (by simpa using hm)

/-- One element of a row of the call's own is another one. -/
theorem own_set {w : World} {base n : Nat} {e : TypeId} {v : Value} {xs : List Value} (h : w.ownsRow base e 1 v n xs) {k : Nat} (hk : k < n) :
    ∃ g cap, v = .slice (some ⟨g, 0, none⟩) n cap ∧ n ≤ cap ∧ cap ≤ maxLen ∧ base ≤ g ∧ g < w.heap.size ∧ w.frozen? ⟨g, k, none⟩ = false ∧ (∀ u, xs[k]? = some u → w.cell? ⟨g, k, none⟩ = some u) ∧
      ∀ u, (w.setCell ⟨g, k, none⟩ u).ownsRow base e 1 v n (xs.set k u) := by
  have hl := h.1
  have hcells := fun g hg j u hu => h.cells (g := g) hg j u hu
  rcases h.2 with ⟨rfl, rfl⟩ | ⟨g, cap, cur, rfl, hb, hgg, h1, h2, h3, h4⟩
  · simp at hl; omega
  · have hB : Blk w g e cur := hgg
    refine ⟨g, cap, rfl, h1, h2, hb, hB.lt, hB.frozen k, fun u hu => ?_, fun u => ⟨by simpa using hl, .inr ⟨g, cap, cur.setIfInBounds k u, rfl, hb, hB.set_ k u, h1, h2, by simpa using h3, ?_⟩⟩⟩
    · have := hcells g rfl k u hu
      rwa [Addr.add_lit, Nat.zero_add] at this
    · simp only [Array.toList_setIfInBounds, List.take_set, h4]
end Go.Proofs.Ytncmmiecfkfcgaa
