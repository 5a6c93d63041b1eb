/- Maps told key by key, whatever the keys' type; an entry that is there is another one. No program. -/
import Derived.Test.YtpabbhhaagfoeaaIMap
namespace Go.Proofs.Ytpabbhhaagfoeaa
set_option maxRecDepth 100000
open Go.RowKit Go.Maps
set_option linter.unusedVariables false
set_option linter.unusedSimpArgs false

theorem held_eq {v : Value} {f : Option Value} {zd : DataW Value} (h : f = some v) : (match f with | some v => DataW.held v | none => zd) = .held v := by rw [h]
/-- Block b is a map of n entries; f says what it holds, key by key. -/
def KMap (P : Program) (k : TypeId) (w : World) (b n : Nat) (f : Value → Option Value) : Prop :=
  ∃ D, w.ownsMap P k rdV b n D ∧ Maps.size D = n ∧ ∀ x lx, keyOf P k x = some lx → ∀ zd, D.atKey lx zd = match f x with | some v => .held v | none => zd
noncomputable def updK (f : Value → Option Value) (x v : Value) : Value → Option Value := fun y => @ite _ (y = x) (Classical.propDecidable _) (some v) (f y)
theorem updK_same (f : Value → Option Value) (x v : Value) : updK f x v x = some v := by unfold updK; rw [if_pos rfl]
theorem updK_ne {f : Value → Option Value} {x y v : Value} (h : y ≠ x) : updK f x v y = f y := by unfold updK; rw [if_neg h]
section
variable {P : Program} {k t e : TypeId} {w w' : World} {b n : Nat} {f : Value → Option Value}
theorem KMap.made (w : World) (P : Program) (k : TypeId) : KMap P k (w.alloc (.map #[] 0)) w.heap.size 0 (fun _ => none) :=
  ⟨_, World.ownsMap_made w P k rdV, rfl, fun x lx hx zd => rfl⟩
theorem KMap.isMap (h : KMap P k w b n f) : ∃ es c, w.heap[b]? = some (.map es c) := by
  obtain ⟨D, ⟨es, c, hb, _⟩, _⟩ := h
  exact ⟨es, c, hb⟩
theorem KMap.lt (h : KMap P k w b n f) : b < w.heap.size := by
  obtain ⟨D, h, _⟩ := h
  exact h.lt
theorem KMap.mods {S : Nat → Prop} (h : KMap P k w b n f) (hm : Mods S w w') (hS : ¬ S b) : KMap P k w' b n f := by
  have hlt := h.lt
  obtain ⟨D, ⟨es, c, hb, r⟩, h2⟩ := h
  exact ⟨D, ⟨es, c, (hm.block b hlt hS).trans hb, r⟩, h2⟩
variable (hK : Keyed P k) (ht : P.underlying t = some (.map k e))
include hK ht
theorem KMap.look (h : KMap P k w b n f) {x : Value} {lx : Lit} (hx : keyOf P k x = some lx) {v : Value} (hv : f x = some v) {z : Value} (hz : (zeroValue e).run P w = .ok z w) : (Instr.lookup t (.map (some b)) x true).run P w = .ok (.tuple #[v, .bool true]) w ∧ (Instr.lookup t (.map (some b)) x false).run P w = .ok v w := by
  obtain ⟨D, h1, h2, h3⟩ := h
  have hat := fun zd => h3 x lx hx zd
  rw [hv] at hat
  obtain ⟨v1, p1, r1, e1⟩ := h1.look_ok hK ht hz (zd := .held z) (zp := []) rfl hx
  obtain ⟨v2, p2, r2, e2⟩ := h1.lookup hK ht hz (zd := .held z) (zp := []) rfl hx
  rw [hat] at e1 e2
  injection e1 with e1
  injection e1 with e1
  injection e1 with e1
  injection e2 with e2
  injection e2 with e2
  injection e2 with e2
  subst e1
  subst e2
  rw [has_true_of_atKey hat] at r1
  exact ⟨r1, r2⟩
theorem KMap.miss (h : KMap P k w b n f) {x : Value} {lx : Lit} (hx : keyOf P k x = some lx) (hv : f x = none) {z : Value} (hz : (zeroValue e).run P w = .ok z w) : (Instr.lookup t (.map (some b)) x true).run P w = .ok (.tuple #[z, .bool false]) w := by
  obtain ⟨D, h1, h2, h3⟩ := h
  have hat := fun zd => h3 x lx hx zd
  rw [hv] at hat
  obtain ⟨v1, p1, r1, e1⟩ := h1.look_ok hK ht hz (zd := .held z) (zp := []) rfl hx
  rw [hat] at e1
  injection e1 with e1
  injection e1 with e1
  injection e1 with e1
  subst e1
  rw [has_false_of_atKey hat] at r1
  exact r1
theorem KMap.put (h : KMap P k w b n f) {x : Value} {lx : Lit} (hx : keyOf P k x = some lx) (hn : n < maxLen) (v : Value) :
    ∃ w', (Instr.mapUpdate t (.map (some b)) x v).run P w = .ok () w' ∧ (∃ m, KMap P k w' b m (updK f x v) ∧ n ≤ m ∧ m ≤ n + 1) ∧ Mods (fun i => i = b) w w' := by
  obtain ⟨D, h1, h2, h3⟩ := h
  obtain ⟨w', r, o, g⟩ := h1.update (d := .held v) hK ht hn hx rfl
  have hkl : WideAt.IsKeyLit lx := hK.key hx
  have hsz := size_put (k := lx) (h1.tidy hK) (.held v)
  rw [h2] at hsz
  refine ⟨w', r, ⟨_, ⟨_, ownsMap_size o, rfl, fun y ly hy zd => ?_⟩, ?_, ?_⟩, (Mods.refl _ _).grown g (fun i hi _ => by injection hi with hi; exact hi.symm)⟩
  · unfold updK
    by_cases hyx : y = x
    · subst hyx
      rw [hx] at hy
      injection hy with hy
      subst hy
      rw [if_pos rfl, atKey_put_same h1.isMap hkl]
    · rw [if_neg hyx, atKey_put_other (fun e => hyx (by subst e; exact hK.inj hy hx))]
      exact h3 y ly hy zd
  · rw [hsz]; split <;> omega
  · rw [hsz]; split <;> omega
end
section
variable {P : Program} {k t e : TypeId} {w w' : World} {b n : Nat} {f : Int → Option Value}
/-- A map by integers: an entry is laid, whether there was one or not. -/
theorem IMap.lay (hk : P.underlying k = some (.int .i64)) (ht : P.underlying t = some (.map k e)) (h : IMap P k w b n f) {x : Int} (hx : in64 x) (hn : n < maxLen) (v : Value) :
    ∃ w', (Instr.mapUpdate t (.map (some b)) (.int .i64 x) v).run P w = .ok () w' ∧ (∃ m, IMap P k w' b m (upd f x (some v)) ∧ n ≤ m ∧ m ≤ n + (if (f x).isSome then 0 else 1)) ∧ Mods (fun i => i = b) w w' := by
  cases hf : f x with
  | none =>
    obtain ⟨w', r, h1, h2⟩ := h.put hk ht hx hf hn v
    exact ⟨w', r, ⟨n + 1, h1, by omega, by simp⟩, h2⟩
  | some u =>
    obtain ⟨D, h1, h2, h3⟩ := h
    have hkey : keyOf P k (.int .i64 x) = some (.int .i64 x) := keyOf_int_mk hk hx
    have hat := fun zd => h3 x hx zd
    rw [hf] at hat
    obtain ⟨w', r, o, g⟩ := h1.update (d := .held v) (int_keyed hk) ht hn hkey rfl
    have hkl : WideAt.IsKeyLit (.int .i64 x) := (int_keyed hk).key hkey
    have hs : Maps.size (D.put (.int .i64 x) (.held v)) = n := by
      rw [size_put (h1.tidy (int_keyed hk)), has_true_of_atKey hat, h2]; simp
    refine ⟨w', r, ⟨n, ⟨_, by have := ownsMap_size o; rw [hs] at this; exact this, hs, fun y hy zd => ?_⟩, Nat.le_refl _, by omega⟩, (Mods.refl _ _).grown g (fun i hi _ => by injection hi with hi; exact hi.symm)⟩
    unfold upd
    by_cases hyx : y = x
    · subst hyx
      rw [if_pos rfl, atKey_put_same h1.isMap hkl]
    · rw [if_neg hyx, atKey_put_other (fun e => hyx (by injection e))]
      exact h3 y hy zd
end
section
variable {P : Program} {ops : Array Oper} {rest : List Oper} {o : Oper} {a : Act} {Q : Exit → Act → World → Prop} {w : World} {K : Act → World → Prop}
theorem wp_mapUpdate_run {m x v : Operand} {t : TypeId} (hop : o.op = Op.mapUpdate t m x v) (hd : o.dst = none) {M X V : Value} (hm : a.eval m = M) (hx : a.eval x = X) (hv : a.eval v = V) {w' : World} (hr : (Instr.mapUpdate t M X V).run P w = .ok () w') (hK : K a w') : o.wp P a w K Q := by
  unfold Oper.wp
  simp [execOp, hop, hm, hx, hv, hr, Result.andThen, Oper.upon, hd, Act.put]
  exact hK
end
end Go.Proofs.Ytpabbhhaagfoeaa
