/- Slices whose elements have several cells: they read as lists of cells. No program. -/
import Derived.Test.YtpabbhhaagfoeaaBaseM
import Derived.Test.YtpabbhhaagfoeaaArrM
namespace Go.Proofs.Ytpabbhhaagfoeaa
set_option maxRecDepth 100000
open Go.RowKit
set_option linter.unusedVariables false

structure SlS (s : Nat) (w : World) (A : Option Addr) (c n : Nat) (xs : List Value) : Prop where
  len : xs.length = n * s
  le : n ≤ c
  max : c ≤ maxLen
  has : Has w A xs
section
variable {S : Nat → Prop} {w w' : World} {A : Option Addr} {s c n : Nat} {xs : List Value}
theorem SlS.mods (h : SlS s w A c n xs) (hm : Mods S w w') (hA : Off S A) : SlS s w' A c n xs := ⟨h.len, h.le, h.max, h.has.mods hm hA⟩
theorem SlS.nilm (h : SlS s w A c n xs) (hm : Mods Nil w w') : SlS s w' A c n xs := h.mods hm (fun _ _ h => h)
theorem SlS.none_ (s : Nat) (w : World) : SlS s w none 0 0 [] := ⟨by simp, Nat.le_refl _, Nat.zero_le _, .inl rfl⟩
theorem SlS.at_ (h : SlS s w A c n xs) (hn : 0 < n) (hs : 0 < s) : ∃ b off, A = some ⟨b, off, none⟩ ∧ b < w.heap.size ∧ ∀ j u, xs[j]? = some u → w.cell? ⟨b, off + j, none⟩ = some u :=
  h.has.at_ (by rw [h.len]; exact Nat.mul_pos hn hs)
theorem own_sls {base : Nat} {e : TypeId} {v : Value} (h : w.ownsRow base e s v n xs) : ∃ A c, v = .slice A n c ∧ SlS s w A c n xs ∧ (∀ a, A = some a → v.ownBlock = some a.block ∧ base ≤ a.block) := by
  have hl := h.1
  rcases h.2 with ⟨rfl, rfl⟩ | ⟨g, cap, cur, rfl, hb, hgg, h1, h2, h3, h4⟩
  · obtain rfl : xs = [] := List.eq_nil_of_length_eq_zero (by simpa using hl)
    exact ⟨none, 0, rfl, SlS.none_ _ _, fun a ha => by cases ha⟩
  · refine ⟨some ⟨g, 0, none⟩, cap, rfl, ⟨hl, h1, h2, .inr ⟨g, 0, rfl, fun j u hu => ?_⟩⟩, (fun a ha => by injection ha with ha; subst ha; exact ⟨rfl, hb⟩)⟩
    have hc := h.cells (g := g) rfl j u hu
    rw [Addr.add_lit] at hc
    exact hc
theorem own_sls' {base : Nat} {e : TypeId} {A : Option Addr} {m : Nat} (h : w.ownsRow base e s (.slice A m c) n xs) : SlS s w A c n xs := by
  obtain ⟨A', c', hv, hs, _⟩ := own_sls h
  injection hv with h1 h2 h3
  subst h1; subst h2; subst h3
  exact hs
end
end Go.Proofs.Ytpabbhhaagfoeaa
