/- Maps keyed by integers, told value by value. No program. -/
import Derived.Test.YtpabbhhaagfoeaaBaseM
import Derived.Maps.OwnSet
namespace Go.Proofs.Ytpabbhhaagfoeaa
set_option maxRecDepth 100000
open Go.RowKit Go.Maps
set_option linter.unusedVariables false

def rdV (v : Value) : Option (DataW Value × List MemPlace) := some (.held v, [])
def in64 (x : Int) : Prop := (Lit.int .i64 x).wf = true
theorem in64_of {x : Int} (h0 : -9223372036854775808 ≤ x) (h1 : x ≤ 9223372036854775807) : in64 x := by
  unfold in64
  simp only [Lit.wf, IntKind.min, IntKind.max]
  simp [IntKind.signed, IntKind.bits]
  omega
/-- Block b is a map of n entries; f says what it holds. -/
def IMap (P : Program) (k : TypeId) (w : World) (b n : Nat) (f : Int → Option Value) : Prop :=
  ∃ D, w.ownsMap P k rdV b n D ∧ Maps.size D = n ∧ ∀ x, in64 x → ∀ zd, D.atKey (.int .i64 x) zd = match f x with | some v => .held v | none => zd
def upd (f : Int → Option Value) (x : Int) (v : Option Value) : Int → Option Value := fun y => if y = x then v else f y
section
variable {P : Program} {k t e : TypeId} {w w' : World} {b n : Nat} {f : Int → Option Value}
theorem ownsMap_size {D : DataW Value} (h : w.ownsMap P k rdV b n D) : w.ownsMap P k rdV b (Maps.size D) D := by
  obtain ⟨es, clock, h1, h2, h3, rfl⟩ := h
  refine ⟨es, clock, h1, h2, ?_, rfl⟩
  simp [Maps.size, length_sorted]
theorem IMap.made (w : World) (P : Program) (k : TypeId) : IMap P k (w.alloc (.map #[] 0)) w.heap.size 0 (fun _ => none) :=
  ⟨_, World.ownsMap_made w P k rdV, rfl, fun x _ zd => rfl⟩
theorem IMap.lt (h : IMap P k w b n f) : b < w.heap.size := by
  obtain ⟨D, h, _⟩ := h
  exact h.lt
theorem IMap.isMap (h : IMap P k w b n f) : ∃ es c, w.heap[b]? = some (.map es c) := by
  obtain ⟨D, ⟨es, c, hb, _⟩, _⟩ := h
  exact ⟨es, c, hb⟩
theorem IMap.mods {S : Nat → Prop} (h : IMap P k w b n f) (hm : Mods S w w') (hS : ¬ S b) : IMap P k w' b n f := by
  have hlt := h.lt
  obtain ⟨D, ⟨es, c, hb, r⟩, h2⟩ := h
  exact ⟨D, ⟨es, c, (hm.block b hlt hS).trans hb, r⟩, h2⟩
theorem IMap.congr (h : IMap P k w b n f) {g : Int → Option Value} (hg : ∀ x, in64 x → g x = f x) : IMap P k w b n g := by
  obtain ⟨D, h1, h2, h3⟩ := h
  exact ⟨D, h1, h2, fun x hx zd => by rw [h3 x hx, hg x hx]⟩
variable (hk : P.underlying k = some (.int .i64)) (ht : P.underlying t = some (.map k e))
include hk ht
theorem IMap.look (h : IMap P k w b n f) {x : Int} (hx : in64 x) {v : Value} (hv : f x = some v) {z : Value} (hz : (zeroValue e).run P w = .ok z w) : (Instr.lookup t (.map (some b)) (.int .i64 x) true).run P w = .ok (.tuple #[v, .bool true]) w ∧ (Instr.lookup t (.map (some b)) (.int .i64 x) false).run P w = .ok v w := by
  obtain ⟨D, h1, h2, h3⟩ := h
  have hkey : keyOf P k (.int .i64 x) = some (.int .i64 x) := keyOf_int_mk hk hx
  have hat := fun zd => h3 x hx zd
  rw [hv] at hat
  obtain ⟨v1, p1, r1, e1⟩ := h1.look_ok (int_keyed hk) ht hz (zd := .held z) (zp := []) rfl hkey
  obtain ⟨v2, p2, r2, e2⟩ := h1.lookup (int_keyed hk) ht hz (zd := .held z) (zp := []) rfl hkey
  rw [hat] at e1 e2
  injection e1 with e1
  injection e1 with e1
  injection e1 with e1
  injection e2 with e2
  injection e2 with e2
  injection e2 with e2
  subst e1
  subst e2
  rw [has_true_of_atKey hat] at r1
  exact ⟨r1, r2⟩
theorem IMap.miss (h : IMap P k w b n f) {x : Int} (hx : in64 x) (hv : f x = none) {z : Value} (hz : (zeroValue e).run P w = .ok z w) : (Instr.lookup t (.map (some b)) (.int .i64 x) true).run P w = .ok (.tuple #[z, .bool false]) w := by
  obtain ⟨D, h1, h2, h3⟩ := h
  have hkey : keyOf P k (.int .i64 x) = some (.int .i64 x) := keyOf_int_mk hk hx
  have hat := fun zd => h3 x hx zd
  rw [hv] at hat
  obtain ⟨v1, p1, r1, e1⟩ := h1.look_ok (int_keyed hk) ht hz (zd := .held z) (zp := []) rfl hkey
  rw [hat] at e1
  injection e1 with e1
  injection e1 with e1
  injection e1 with e1
  subst e1
  rw [has_false_of_atKey hat] at r1
  exact r1
theorem IMap.put (h : IMap P k w b n f) {x : Int} (hx : in64 x) (hv : f x = none) (hn : n < maxLen) (v : Value) :
    ∃ w', (Instr.mapUpdate t (.map (some b)) (.int .i64 x) v).run P w = .ok () w' ∧ IMap P k w' b (n + 1) (upd f x (some v)) ∧ Mods (fun i => i = b) w w' := by
  obtain ⟨D, h1, h2, h3⟩ := h
  have hkey : keyOf P k (.int .i64 x) = some (.int .i64 x) := keyOf_int_mk hk hx
  have hat := fun zd => h3 x hx zd
  rw [hv] at hat
  obtain ⟨w', r, o, g⟩ := h1.update (d := .held v) (int_keyed hk) ht hn hkey rfl
  have hkl : WideAt.IsKeyLit (.int .i64 x) := (int_keyed hk).key hkey
  refine ⟨w', r, ⟨_, o, ?_, fun y hy zd => ?_⟩, (Mods.refl _ _).grown g (fun i hi _ => by injection hi with hi; exact hi.symm)⟩
  · rw [size_put (h1.tidy (int_keyed hk)), has_false_of_atKey hat, h2]
    simp
  · unfold upd
    by_cases hyx : y = x
    · subst hyx
      rw [if_pos rfl, atKey_put_same h1.isMap hkl]
    · rw [if_neg hyx, atKey_put_other (fun e => hyx (by injection e))]
      exact h3 y hy zd
theorem IMap.del (h : IMap P k w b n f) {x : Int} (hx : in64 x) {v : Value} (hv : f x = some v) (ty : TypeId) :
    ∃ w', (Builtin.delete_ #[t, k] ty #[.map (some b), .int .i64 x]).run P w = .ok (.tuple #[]) w' ∧ IMap P k w' b (n - 1) (upd f x none) ∧ Mods (fun i => i = b) w w' := by
  obtain ⟨D, h1, h2, h3⟩ := h
  have hkey : keyOf P k (.int .i64 x) = some (.int .i64 x) := keyOf_int_mk hk hx
  have hat := fun zd => h3 x hx zd
  rw [hv] at hat
  obtain ⟨w', r, o, g⟩ := h1.drop (int_keyed hk) ht hkey ty
  have hs := size_del (k := .int .i64 x) (h1.tidy (int_keyed hk))
  rw [has_true_of_atKey hat, if_pos rfl, h2] at hs
  have hs' : Maps.size (D.del (.int .i64 x)) = n - 1 := by omega
  refine ⟨w', r, ⟨_, by have := ownsMap_size o; rw [hs'] at this; exact this, hs', fun y hy zd => ?_⟩, (Mods.refl _ _).grown g.grown (fun i hi _ => by injection hi with hi; exact hi.symm)⟩
  unfold upd
  by_cases hyx : y = x
  · subst hyx
    rw [if_pos rfl, atKey_del_same]
  · rw [if_neg hyx, atKey_del_other (fun e => hyx (by injection e))]
    exact h3 y hy zd
omit hk
theorem IMap.len (h : IMap P k w b n f) (ty : TypeId) : (Builtin.len_ #[t] ty #[.map (some b)]).run P w = .ok (.int .i64 (n : Int)) w := by
  obtain ⟨D, h1, h2, h3⟩ := h
  rw [h1.len ht ty, h2]
end
section
variable {P : Program} {ops : Array Oper} {rest : List Oper} {o : Oper} {a : Act} {Q : Exit → Act → World → Prop} {w : World} {K : Act → World → Prop}
theorem wp_mapUpdate_im (m x v : Operand) (t : TypeId) (hop : o.op = Op.mapUpdate t m x v) (k e : TypeId) (hk : P.underlying k = some (.int .i64)) (ht : P.underlying t = some (.map k e))
    (b n : Nat) (f : Int → Option Value) (i : Int) (u : Value) (hm : a.eval m = .map (some b)) (hx : a.eval x = .int .i64 i) (hu : a.eval v = u) (h : IMap P k w b n f) (hi : in64 i) (hf : f i = none) (hn : n < maxLen)
    (hK : ∀ w', IMap P k w' b (n + 1) (upd f i (some u)) → Mods (fun j => j = b) w w' → K (a.put o.dst undef) w') : o.wp P a w K Q := by
  obtain ⟨w', hrun, r1, r2⟩ := h.put hk ht hi hf hn u
  unfold Oper.wp
  simp [execOp, hop, hm, hx, hu, hrun, Result.andThen]
  exact hK w' r1 r2
theorem wpList_mapUpdate_im (hg : o.guard = none) (m x v : Operand) (t : TypeId) (hop : o.op = Op.mapUpdate t m x v) (k e : TypeId) (hk : P.underlying k = some (.int .i64)) (ht : P.underlying t = some (.map k e))
    (b n : Nat) (f : Int → Option Value) (i : Int) (u : Value) (hm : a.eval m = .map (some b)) (hx : a.eval x = .int .i64 i) (hu : a.eval v = u) (h : IMap P k w b n f) (hi : in64 i) (hf : f i = none) (hn : n < maxLen)
    (hK : ∀ w', IMap P k w' b (n + 1) (upd f i (some u)) → Mods (fun j => j = b) w w' → wpList P ops Q rest (a.put o.dst undef) w') : wpList P ops Q (o :: rest) a w :=
  wpList_plain hg fun K' hK' => wp_mapUpdate_im m x v t hop k e hk ht b n f i u hm hx hu h hi hf hn (fun w' h1 h2 => hK' _ _ (hK w' h1 h2))
theorem wpList_delete_im (hg : o.guard = none) (m x : Operand) (t k : TypeId) (hop : o.op = Op.call { callee := Callee.builtin Builtin.delete, args := #[m, x], argTypes := #[t, k] }) (e : TypeId) (hk : P.underlying k = some (.int .i64)) (ht : P.underlying t = some (.map k e))
    (b n : Nat) (f : Int → Option Value) (i : Int) (u : Value) (hm : a.eval m = .map (some b)) (hx : a.eval x = .int .i64 i) (h : IMap P k w b n f) (hi : in64 i) (hf : f i = some u)
    (hK : ∀ w', IMap P k w' b (n - 1) (upd f i none) → Mods (fun j => j = b) w w' → wpList P ops Q rest (a.put o.dst (.tuple #[])) w') : wpList P ops Q (o :: rest) a w := by
  refine wpList_plain hg fun K' hK' => ?_
  obtain ⟨w', hrun, r1, r2⟩ := h.del hk ht hi hf o.type
  unfold Oper.wp
  simp [execOp, hop, resolve, invoke, builtin, hm, hx, hrun, Result.andThen]
  exact hK' _ _ (hK w' r1 r2)
theorem wpList_len_im (hg : o.guard = none) (m : Operand) (t : TypeId) (hop : o.op = Op.call { callee := Callee.builtin Builtin.len, args := #[m], argTypes := #[t] }) (k e : TypeId) (ht : P.underlying t = some (.map k e))
    (b n : Nat) (f : Int → Option Value) (hm : a.eval m = .map (some b)) (h : IMap P k w b n f)
    (hK : wpList P ops Q rest (a.put o.dst (.int .i64 (n : Int))) w) : wpList P ops Q (o :: rest) a w := by
  refine wpList_plain hg fun K' hK' => ?_
  unfold Oper.wp
  simp [execOp, hop, resolve, invoke, builtin, hm, h.len ht o.type, Result.andThen]
  exact hK' _ _ hK
end
end Go.Proofs.Ytpabbhhaagfoeaa
