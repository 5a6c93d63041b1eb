/- Package nums: the reader. -/
import Derived.Test.YtncmmiecfkfcgaaNums1
import Derived.StillTailTactics
import Derived.Deep.QuietTactic
import Derived.BigQuiet
namespace Go.Proofs.Ytncmmiecfkfcgaa
open Go.RowKit

theorem IsReader.cut {w : World} {g : Nat} {k : Option Nat} {err : Int} {xs : List UInt8} {A : Option Addr} {c n : Nat} (hne : k ≠ some g) (hb : Blk w g 88 #[.slice A xs.length c, .int .i64 err]) (hs : Sl w A c (bts xs)) (ha : ∀ a, A = some a → k = some a.block)
    (hn : n ≤ xs.length) (A2 : Option Addr) (c2 : Nat) (hA : A2 = if c = n then A else A.map (·.add n)) (hc2 : c2 = c - n) :
    IsReader (w.setCell ⟨g, 0, none⟩ (.slice A2 (xs.length - n) c2)) g k err (xs.drop n) := by
  subst hA hc2
  have h1 := hb.set_ 0 (.slice (if c = n then A else A.map (·.add n)) (xs.length - n) (c - n))
  have h2 := hs.cut (k := n) (by simpa using hn)
  have hA2 : ∀ a, (if c = n then A else A.map (·.add n)) = some a → k = some a.block := by
    intro a h
    split at h
    · exact ha a h
    · cases A with
      | none => simp at h
      | some a0 =>
        simp at h
        subst h
        rw [ha a0 rfl]
        unfold Addr.add
        split <;> rfl
  refine ⟨hne, _, c - n, ?_, ?_, hA2⟩
  · simpa using h1
  · rw [bts_drop] at h2
    exact h2.mods ((Mods.refl (· = g) w).setCell (fun _ => rfl) _) (fun a e h => hne (by rw [hA2 a e, h]))

def readRaw (err : Int) (xs : List UInt8) (n : Int) : Int × List UInt8 × List UInt8 :=
  if err ≠ 0 then (err, xs, []) else if n < 0 then (1, [], []) else if (xs.length : Int) < n then (10, [], []) else (0, xs.drop n.toNat, xs.take n.toNat)

/-- What a call that tells bytes leaves: the slice e, the reader's new state r. -/
def Told (w : World) (g : Nat) (k : Option Nat) (r : Int × List UInt8 × List UInt8) (e : Ending) (w' : World) : Prop :=
  ∃ A c, e = .returned (.slice A r.2.2.length c) ∧ Sl w' A c (bts r.2.2) ∧ Fresh w A (bts r.2.2) ∧ IsReader w' g k r.1 r.2.1 ∧ Mods (· = g) w w'

end Go.Proofs.Ytncmmiecfkfcgaa
