/- A region that draws its order, whose operations only read and whose callees only lay new blocks: walked once, in the order of the text. No program. -/
import Derived.Test.YtpabbhhaagfoeaaBaseM
import Derived.Deep.QuietTactic
import Derived.BigQuiet
import Derived.Deep.MidRow
namespace Go.Proofs.Ytpabbhhaagfoeaa
set_option maxRecDepth 100000
open Go.RowKit
set_option linter.unusedVariables false
section
variable {P : Program} {ops : Array Oper} {C : World → Prop} {K : Act → Prop} {a : Act} {o : Oper}
theorem gq_region {id : Nat} {Q : Exit → Act → World → Prop} {a : Act} {W : World} {l : List Oper} (hm : P.follows .mixedOrders = true) (hB : Region.lexB .any l.toArray = true)
    (h : wpQuiet P l.toArray (fun V => Mods Nil W V) (fun a' => ∀ V, Mods Nil W V → Q .normal a' V) l a) : (Code.region id l.toArray true).wp P Q a W :=
  wp_region_quiet (C := fun V => Mods Nil W V) hm hB ((Mods.refl Nil W).drew) (by simpa using h)
theorem gq_op {v : Value} (h : ∀ w, C w → (execOp a.eval o).run P w = .ok (.value v) w) (hk : K (a.put o.dst v)) : o.quiet P a C K :=
  ⟨v, fun w hw => by unfold Oper.quietAt; rw [h w hw]; exact ⟨rfl, rfl⟩, hk⟩
theorem gq_call {f : FuncId} {args : Array Value} {v : Value} (hc : ∀ w, C w → Calls P f args w (fun e w' => e = .returned v ∧ C w')) (h : ∀ w, (execOp a.eval o).run P w = .ok (.enter f args) w) (hk : K (a.put o.dst v)) : o.quiet P a C K :=
  ⟨v, fun w hw => by unfold Oper.quietAt; rw [h w]; exact ⟨rfl, hc w hw⟩, hk⟩
theorem gq_of {W : World} {f : FuncId} {args : Array Value} {v : Value} (h : ∀ w, Calls P f args w (fun e w' => e = .returned v ∧ Mods Nil w w')) : ∀ V, Mods Nil W V → Calls P f args V (fun e V' => e = .returned v ∧ Mods Nil W V') :=
  fun V hV => (h V).mono fun _ _ ⟨h1, h2⟩ => ⟨h1, hV.trans h2⟩
theorem gq_load_row (ty : TypeId) (x : Operand) (ho : o.op = .load ty x) (b off : Nat) (hx : a.eval x = .pointer (some ⟨b, off, none⟩)) (cs : List Value) (d : TypeDesc) (hS : ∀ V, C V → V.rangeAt b off cs)
    (hu : P.underlying ty = some d) (hd : d.isRow = true) (hi : (P.info? ty).map (·.size) = some cs.length) (hk : K (a.put o.dst (.agg cs.toArray))) : o.quiet P a C K :=
  gq_op (fun w hw => by
    unfold execOp
    simp only [ho, hx, Instr.loadAt, Instr.sureAddr, Sem.run_bind, Sem.run_pure, Result.andThen_ok, run_loadVar_mid w b off ty cs d (hS w hw) hu hd hi]) hk
theorem gq_load (ty : TypeId) (x : Operand) (ho : o.op = .load ty x) (p : Addr) (hx : a.eval x = .pointer (some p)) (v : Value) (hS : ∀ V, C V → (Instr.loadAt ty (.pointer (some p))).run P V = .ok v V) (hk : K (a.put o.dst v)) : o.quiet P a C K :=
  gq_op (fun w hw => by
    unfold execOp
    simp only [ho, hx, Sem.run_bind, hS w hw, Result.andThen_ok, Sem.run_pure]) hk
end
section
variable {P : Program} {ops : Array Oper} {Q : Exit → Act → World → Prop} {a : Act} {w : World} {rest : List Oper} {o : Oper}
/-- A whole array is loaded, guarded or not. -/
theorem gw_load_mid (hw : Region.wanted o (yielded ops a.tmps) = true) (ty : TypeId) (x : Operand) (ho : o.op = .load ty x) (b off : Nat) (hx : a.eval x = .pointer (some ⟨b, off, none⟩)) (cs : List Value) (d : TypeDesc) (hc : w.rangeAt b off cs)
    (hu : P.underlying ty = some d) (hd : d.isRow = true) (hi : (P.info? ty).map (·.size) = some cs.length) (h : wpList P ops Q rest (a.put o.dst (.agg cs.toArray)) w) : wpList P ops Q (o :: rest) a w := by
  unfold wpList
  rw [if_pos hw]
  exact .inl (wp_load_mid ty x ho b off hx cs d hc hu hd hi h)
end
end Go.Proofs.Ytpabbhhaagfoeaa
