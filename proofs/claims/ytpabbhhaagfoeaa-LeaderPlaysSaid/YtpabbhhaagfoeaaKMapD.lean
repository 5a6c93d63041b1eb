/- Maps told key by key: an entry is taken out, one is put in over what is there. No program. -/
import Derived.Test.YtpabbhhaagfoeaaKMap
namespace Go.Proofs.Ytpabbhhaagfoeaa
set_option maxRecDepth 100000
open Go.RowKit Go.Maps
set_option linter.unusedVariables false
set_option linter.unusedSimpArgs false
noncomputable def delK (f : Value → Option Value) (x : Value) : Value → Option Value := fun y => @ite _ (y = x) (Classical.propDecidable _) none (f y)
theorem delK_same (f : Value → Option Value) (x : Value) : delK f x x = none := by unfold delK; rw [if_pos rfl]
theorem delK_ne {f : Value → Option Value} {x y : Value} (h : y ≠ x) : delK f x y = f y := by unfold delK; rw [if_neg h]
section
variable {P : Program} {k t e : TypeId} {w w' : World} {b n : Nat} {f : Value → Option Value}
theorem KMap.congr (h : KMap P k w b n f) {g : Value → Option Value} (hg : ∀ x lx, keyOf P k x = some lx → g x = f x) : KMap P k w b n g := by
  obtain ⟨D, h1, h2, h3⟩ := h
  exact ⟨D, h1, h2, fun x lx hx zd => by rw [hg x lx hx]; exact h3 x lx hx zd⟩
variable (hK : Keyed P k)
include hK
variable (ht : P.underlying t = some (.map k e))
include ht
theorem KMap.miss0 (h : KMap P k w b n f) {x : Value} {lx : Lit} (hx : keyOf P k x = some lx) (hv : f x = none) {z : Value} (hz : (zeroValue e).run P w = .ok z w) : (Instr.lookup t (.map (some b)) x false).run P w = .ok z w := by
  obtain ⟨D, h1, h2, h3⟩ := h
  have hat := fun zd => h3 x lx hx zd
  rw [hv] at hat
  obtain ⟨v2, p2, r2, e2⟩ := h1.lookup hK ht hz (zd := .held z) (zp := []) rfl hx
  rw [hat] at e2
  injection e2 with e2
  injection e2 with e2
  injection e2 with e2
  subst e2
  exact r2
theorem KMap.del (h : KMap P k w b n f) {x : Value} {lx : Lit} (hx : keyOf P k x = some lx) (ty : TypeId) :
    ∃ w', (Builtin.delete_ #[t, k] ty #[.map (some b), x]).run P w = .ok (.tuple #[]) w' ∧ (∃ m, KMap P k w' b m (delK f x) ∧ m ≤ n) ∧ Mods (fun i => i = b) w w' := by
  obtain ⟨D, h1, h2, h3⟩ := h
  obtain ⟨w', r, o, g⟩ := h1.drop hK ht hx ty
  have hs := size_del (k := lx) (h1.tidy hK)
  rw [h2] at hs
  have hs' : Maps.size (D.del lx) ≤ n := by split at hs <;> omega
  refine ⟨w', r, ⟨_, ⟨_, ownsMap_size o, rfl, fun y hy hyk zd => ?_⟩, hs'⟩, (Mods.refl _ _).grown g.grown (fun i hi _ => by injection hi with hi; exact hi.symm)⟩
  unfold delK
  by_cases hyx : y = x
  · subst hyx
    rw [hx] at hyk
    injection hyk with hyk
    subst hyk
    rw [if_pos rfl, atKey_del_same]
  · rw [if_neg hyx, atKey_del_other (fun e => hyx (by subst e; exact hK.inj hyk hx))]
    exact h3 y hy hyk zd
/-- One entry is there: the map is not empty, and without it one entry fewer. -/
theorem KMap.del_in (h : KMap P k w b n f) {x : Value} {lx : Lit} (hx : keyOf P k x = some lx) {v : Value} (hv : f x = some v) (ty : TypeId) :
    ∃ w', (Builtin.delete_ #[t, k] ty #[.map (some b), x]).run P w = .ok (.tuple #[]) w' ∧ KMap P k w' b (n - 1) (delK f x) ∧ Mods (fun i => i = b) w w' := by
  obtain ⟨D, h1, h2, h3⟩ := h
  have hat := fun zd => h3 x lx hx zd
  rw [hv] at hat
  obtain ⟨w', r, o, g⟩ := h1.drop hK ht hx ty
  have hs := size_del (k := lx) (h1.tidy hK)
  rw [has_true_of_atKey hat, if_pos rfl, h2] at hs
  have hs' : Maps.size (D.del lx) = n - 1 := by omega
  refine ⟨w', r, ⟨_, by have := ownsMap_size o; rw [hs'] at this; exact this, hs', fun y hy hyk zd => ?_⟩, (Mods.refl _ _).grown g.grown (fun i hi _ => by injection hi with hi; exact hi.symm)⟩
  unfold delK
  by_cases hyx : y = x
  · subst hyx
    rw [hx] at hyk
    injection hyk with hyk
    subst hyk
    rw [if_pos rfl, atKey_del_same]
  · rw [if_neg hyx, atKey_del_other (fun e => hyx (by subst e; exact hK.inj hyk hx))]
    exact h3 y hy hyk zd
/-- As KMap.put, with the count. -/
theorem KMap.put_n (h : KMap P k w b n f) {x : Value} {lx : Lit} (hx : keyOf P k x = some lx) (hn : n < maxLen) (v : Value) :
    ∃ w', (Instr.mapUpdate t (.map (some b)) x v).run P w = .ok () w' ∧ KMap P k w' b (n + (if (f x).isSome then 0 else 1)) (updK f x v) ∧ Mods (fun i => i = b) w w' := by
  obtain ⟨D, h1, h2, h3⟩ := h
  obtain ⟨w', r, o, g⟩ := h1.update (d := .held v) hK ht hn hx rfl
  have hkl : WideAt.IsKeyLit lx := hK.key hx
  have hsz := size_put (k := lx) (h1.tidy hK) (.held v)
  have hat := fun zd => h3 x lx hx zd
  have hs : Maps.size (D.put lx (.held v)) = n + (if (f x).isSome then 0 else 1) := by
    cases hf : f x with
    | none =>
      rw [hf] at hat
      rw [hsz, has_false_of_atKey hat, h2]; simp
    | some u =>
      rw [hf] at hat
      rw [hsz, has_true_of_atKey hat, h2]; simp
  refine ⟨w', r, ⟨_, by have := ownsMap_size o; rw [hs] at this; exact this, hs, fun y ly hy zd => ?_⟩, (Mods.refl _ _).grown g (fun i hi _ => by injection hi with hi; exact hi.symm)⟩
  unfold updK
  by_cases hyx : y = x
  · subst hyx
    rw [hx] at hy
    injection hy with hy
    subst hy
    rw [if_pos rfl, atKey_put_same h1.isMap hkl]
  · rw [if_neg hyx, atKey_put_other (fun e => hyx (by subst e; exact hK.inj hy hx))]
    exact h3 y ly hy zd
omit hK
theorem KMap.len (h : KMap P k w b n f) (ty : TypeId) : (Builtin.len_ #[t] ty #[.map (some b)]).run P w = .ok (.int .i64 (n : Int)) w := by
  obtain ⟨D, h1, h2, h3⟩ := h
  rw [h1.len ht ty, h2]
end
section
variable {P : Program} {ops : Array Oper} {rest : List Oper} {o : Oper} {a : Act} {Q : Exit → Act → World → Prop} {w : World} {K : Act → World → Prop}
theorem wp_delete_run {m x : Operand} {t k : TypeId} (hop : o.op = Op.call { callee := Callee.builtin Builtin.delete, args := #[m, x], argTypes := #[t, k] }) {M X : Value} (hm : a.eval m = M) (hx : a.eval x = X) {w' : World} (hr : (Builtin.delete_ #[t, k] o.type #[M, X]).run P w = .ok (.tuple #[]) w') (hK : K (a.put o.dst (.tuple #[])) w') : o.wp P a w K Q := by
  unfold Oper.wp
  simp [execOp, hop, resolve, invoke, builtin, hm, hx, hr, Result.andThen]
  exact hK
end
end Go.Proofs.Ytpabbhhaagfoeaa
