/- A row of strings that a statement of layer 8 keeps. -/
import Derived.Test.YtdllgmhipenidaaAt8
import Derived.Test.YtdllgmhipenidaaClone
namespace Go.Proofs.Ytdllgmhipenidaa
set_option maxRecDepth 100000
open Go.RowKit
set_option linter.unusedVariables false

def str8 (bs : List (List UInt8)) : List Value := bs.map fun b => .string (strOf b)
theorem str8_length (bs : List (List UInt8)) : (str8 bs).length = bs.length := by simp [str8]
theorem str8_at {bs : List (List UInt8)} {j : Nat} (h : j < bs.length) : (str8 bs)[j]? = some (.string (strOf (bs.getD j []))) := by
  simp [str8, List.getD_eq_getElem?_getD, h]
theorem str8_snoc (bs : List (List UInt8)) (b : List UInt8) : str8 bs ++ [.string (strOf b)] = str8 (bs ++ [b]) := by simp [str8]
theorem str8_one (bs : List (List UInt8)) : ∀ u ∈ str8 bs, u.oneCell' = true := fun u hu => by
  unfold str8 at hu
  obtain ⟨b, _, rfl⟩ := List.mem_map.1 hu
  rfl
theorem infoStr8 : (Try.prog.info? 9).map (fun i => (i.zero, i.size, i.bytes)) = some (some (.string ⟨#[]⟩), 1, 16) := by kernel_rfl
theorem At8.str {w w' : World} {base cb db at_ : Nat} {L : List (List UInt8)} {c : PCell} (h : At8 w base cb db at_ L c) {S : Nat → Prop} (hm : Mods S w w') (hS : ∀ k, S k → ∃ cs, Blk w k 9 cs) : At8 w' base cb db at_ L c := by
  refine ⟨⟨h.all.1.offC hm (fun k hk hs => ?_), h.all.2.off hm (fun hk => ?_)⟩, h.op, h.fit, h.le⟩
  · obtain ⟨cs, hb⟩ := hS k hk
    obtain ⟨_, t, cs2, h2, h3⟩ := hs
    obtain rfl := cblk_typ hb h2
    rcases h3 with h3 | h3 | h3 <;> exact absurd h3 (by decide)
  · obtain ⟨cs, hb⟩ := hS _ hk
    exact absurd (cblk_typ hb h.all.2.blk) (by decide)
/-- A slice in a block of strings. -/
def InStr (w : World) (A : Option Addr) : Prop := ∀ a, A = some a → ∃ cs, Blk w a.block 9 cs
theorem cs_str {w : World} {base k : Nat} {cs : Array Value} (hs : CS base w k) (hb : Blk w k 9 cs) : False := by
  obtain ⟨_, t, cs2, h2, h3⟩ := hs
  obtain rfl := cblk_typ hb h2
  rcases h3 with h3 | h3 | h3 | h3 <;> exact absurd h3 (by decide)
theorem InStr.cm {w w' : World} {base : Nat} {A : Option Addr} (h : InStr w A) (hm : CM base w w') : InStr w' A := fun a ha => by
  obtain ⟨cs, hb⟩ := h a ha
  exact ⟨cs, hb.mods hm (fun hs => cs_str hs hb)⟩
theorem sl_cm {w w' : World} {base c : Nat} {A : Option Addr} {xs : List Value} (h : Sl w A c xs) (hi : InStr w A) (hm : CM base w w') : Sl w' A c xs := h.mods hm (fun a ha hs => by
  obtain ⟨cs, hb⟩ := hi a ha
  exact cs_str hs hb)
theorem strOf_ne {x y : List UInt8} (h : x ≠ y) : ((strOf x).toList == (strOf y).toList) = false := by
  rw [strOf_toList, strOf_toList]
  simpa using h
theorem wpH_call {P : Program} {o : Oper} {a : Act} {w : World} {K : Act → World → Prop} {Q : Exit → Act → World → Prop} (f : FuncId) (args : Array Value) (he : (execOp a.eval o).run P w = .ok (.enter f args) w) (h : Calls P f args w fun e w' => ∃ v, e = .returned v ∧ K (a.put o.dst v) w') : o.wp P a w K Q := by
  unfold Oper.wp
  rw [he]
  unfold Oper.upon
  refine h.mono fun e w' ⟨v, h1, h2⟩ => ?_
  subst h1
  exact h2
theorem wpH_value {P : Program} {o : Oper} {a : Act} {w : World} {K : Act → World → Prop} {Q : Exit → Act → World → Prop} {v : Value} (he : (execOp a.eval o).run P w = .ok (.value v) w) (h : K (a.put o.dst v) w) : o.wp P a w K Q := by
  unfold Oper.wp
  rw [he]
  exact h
end Go.Proofs.Ytdllgmhipenidaa
