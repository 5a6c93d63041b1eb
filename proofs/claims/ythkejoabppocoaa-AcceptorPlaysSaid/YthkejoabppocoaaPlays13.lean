/- AcceptorPlays: the reference's acceptor in its box. -/
import Derived.Test.YthkejoabppocoaaHelp13
import Derived.Test.YthkejoabppocoaaRef13d
namespace Go.Proofs.Ythkejoabppocoaa
set_option maxRecDepth 100000
open Go.RowKit
set_option linter.unusedVariables false
set_option linter.unusedSimpArgs false

structure PR (W : World) (X : Nat → Prop) (g : Nat) (a : PAc) (A : Option Addr) (n c : Nat) : Prop where
  box : Blk W g 29 (acC a A n c)
  r : RVs W A c n a.L
  xg : X g
  xa : ∀ x, A = some x → X x.block
section
variable {W0 W W' : World} {X X' : Nat → Prop} {g n c n' c' : Nat} {a a' : PAc} {A A' : Option Addr}
theorem PR.mods (h : PR W X g a A n c) (hm : Mods (AM W0 X) W W') : PR W' X g a A n c :=
  ⟨h.box.mods hm (fun hk => hk.2 h.xg), h.r.mods hm (fun x hx hk => hk.2 (h.xa x hx)), h.xg, h.xa⟩
theorem PR.nil (h : PR W X g a A n c) (hm : Mods Nil W W') : PR W' X g a A n c := ⟨h.box.mods hm (fun h => h), h.r.nil hm, h.xg, h.xa⟩
theorem PR.sub (h : PR W X g a A n c) (hX : ∀ k, X k → X' k) : PR W X' g a A n c := ⟨h.box, h.r, hX _ h.xg, fun x hx => hX _ (h.xa x hx)⟩
theorem PR.put (h : PR W X g a A n c) (hr : RVs W A' c' n' a'.L) (hA : ∀ x, A' = some x → X x.block) (hb : Blk W' g 29 (acC a' A' n' c')) (hm : Mods (fun i => i = g) W W') : PR W' X g a' A' n' c' :=
  ⟨hb, hr.mods hm (fun x hx e => by obtain ⟨cs, hc⟩ := hr.ty x hx; exact hc.ne_ h.box (by decide) e), h.xg, hA⟩
end
theorem RVs.lt {w : World} {A : Option Addr} {c n : Nat} {l : List PVt} (h : RVs w A c n l) {x : Addr} (hx : A = some x) : x.block < w.heap.size := by
  obtain ⟨cs, hb⟩ := h.ty x hx
  exact hb.lt
theorem lookV_snoc (l : List PVt) (x : PVt) (s : Nat) : (lookV (l ++ [x]) s).isSome = ((lookV l s).isSome || decide (x.slot = s)) := by
  unfold lookV
  rw [List.find?_append]
  cases h : l.find? (fun x => decide (x.slot = s)) with
  | some y => simp
  | none =>
    by_cases hx : x.slot = s
    · simp [hx]
    · simp [hx]
end Go.Proofs.Ythkejoabppocoaa
