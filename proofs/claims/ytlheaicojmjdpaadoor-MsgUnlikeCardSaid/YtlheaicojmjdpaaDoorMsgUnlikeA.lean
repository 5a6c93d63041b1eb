/- MsgUnlike's walk. -/
import Derived.Test.YtlheaicojmjdpaaDoorMsgOf4
import Derived.Test.YtlheaicojmjdpaaDoorRef04j
import Derived.Deep.RegionHeld
namespace Go.Proofs.YtlheaicojmjdpaaDoor
set_option maxRecDepth 100000
open Go.RowKit
set_option linter.unusedVariables false

/-- What Put leaves of any message. -/
def pOut (m : PM) : List UInt8 := if chk m = 0 then putOf m else []
theorem mput_all {w : World} {m : PM} {L : Loc} (ho : m.ok) (hT : Tab w) (hi : In w m L) :
    Calls Tryd.prog 15 #[.agg (MC m L)] w fun e w' => ∃ A c, e = .returned (.tuple #[.slice A (pOut m).length c, .int .i64 (chk m)]) ∧ Sl w' A c (bts (pOut m)) ∧ Mods Nil w w' := by
  rcases chk_kinds m with hc | hc
  · refine (mput_any ho hT hi (chk_zero.1 hc)).mono ?_
    rintro e w' ⟨v, rfl, o, hm⟩
    obtain ⟨A, c, rfl, -, s, -⟩ := own_slice o
    have hp : pOut m = putOf m := by unfold pOut; rw [if_pos hc]
    exact ⟨A, c, by rw [hp, hc], by rw [hp]; exact s, hm⟩
  · refine (mput_bad ho hT hc).mono ?_
    rintro e w' ⟨rfl, hm⟩
    have hp : pOut m = [] := by unfold pOut; rw [if_neg (by rw [hc]; decide)]
    exact ⟨none, 0, by rw [hp, hc]; rfl, by rw [hp]; exact Sl.none_ _, hm⟩
theorem rsame_all (a b : PM) : ∃ r : Bool, (r = true ↔ a = b) ∧ ∀ (w : World) A c B d, Sl w A c (nums a.vec) → Sl w B d (nums b.vec) →
    Calls Tryd.prog 13 #[.agg (RC a A c), .agg (RC b B d)] w fun e w' => e = .returned (.bool r) ∧ Mods Nil w w' := by
  by_cases h : a = b
  · refine ⟨true, by simp [h], fun w A c B d hs ht => (rsame_any hs ht).mono ?_⟩
    rintro e w' ⟨⟨r, rfl, hr⟩, hm⟩
    exact ⟨by rw [hr.2 h], hm⟩
  · refine ⟨false, by simp [h], fun w A c B d hs ht => (rsame_any hs ht).mono ?_⟩
    rintro e w' ⟨⟨r, rfl, hr⟩, hm⟩
    cases r with
    | true => exact absurd (hr.1 rfl) h
    | false => exact ⟨rfl, hm⟩

/-- Two messages in two boxes. -/
structure Two4 (w W : World) (a b : PM) (La Lb : Loc) : Prop where
  ba : Blk W w.heap.size 32 (MC a La)
  bb : Blk W (w.heap.size + 1) 32 (MC b Lb)
  ia0 : In w a La
  ib0 : In w b Lb
  tab0 : Tab w
  mods : Mods Nil w W
theorem Two4.ia {w W : World} {a b : PM} {La Lb : Loc} (h : Two4 w W a b La Lb) : In W a La := h.ia0.mods h.mods
theorem Two4.ib {w W : World} {a b : PM} {La Lb : Loc} (h : Two4 w W a b La Lb) : In W b Lb := h.ib0.mods h.mods
theorem Two4.tab {w W : World} {a b : PM} {La Lb : Loc} (h : Two4 w W a b La Lb) : Tab W := h.tab0.mods h.mods (fun h => h)
theorem Two4.on {w W W' : World} {a b : PM} {La Lb : Loc} (h : Two4 w W a b La Lb) (hm : Mods Nil W W') : Two4 w W' a b La Lb :=
  ⟨h.ba.mods hm (fun h => h), h.bb.mods hm (fun h => h), h.ia0, h.ib0, h.tab0, h.mods.trans hm⟩
theorem two4 {w : World} {a b : PM} {La Lb : Loc} (hT : Tab w) (ia : In w a La) (ib : In w b Lb) : Two4 w ((w.alloc (.cells (MC a La) 32)).alloc (.cells (MC b Lb) 32)) a b La Lb := by
  have hm := ((Mods.refl Nil w).alloc (.cells (MC a La) 32)).alloc (.cells (MC b Lb) 32)
  have hb := Blk.new (w.alloc (.cells (MC a La) 32)) 32 (MC b Lb)
  rw [World.size_alloc] at hb
  exact ⟨(Blk.new w 32 (MC a La)).alloc _, hb, ia, ib, hT, hm⟩
/-- The second is written over by the first. -/
theorem Two4.copy {w W : World} {a b : PM} {La Lb : Loc} (h : Two4 w W a b La Lb) : Two4 w (W.setRow (w.heap.size + 1) (MC a La)) a a La La :=
  ⟨h.ba.setRow_far (by omega) _, h.bb.setRow _, h.ia0, h.ia0, h.tab0, Mods.setRow h.mods (fun h => by omega) _⟩
end Go.Proofs.YtlheaicojmjdpaaDoor
