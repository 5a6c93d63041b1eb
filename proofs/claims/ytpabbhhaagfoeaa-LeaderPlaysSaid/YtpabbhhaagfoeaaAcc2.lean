/- Votes of the package's, one more behind a row of the call's own. -/
import Derived.Test.YtpabbhhaagfoeaaAcc1
namespace Go.Proofs.Ytpabbhhaagfoeaa
set_option maxRecDepth 100000
open Go.RowKit
set_option linter.unusedVariables false
set_option linter.unusedSimpArgs false

theorem infoVp : (Try.prog.info? 49).map (fun i => (i.zero, i.size, i.bytes)) = some (some (.agg #[.int .u64 0, .int .u64 0, .slice none 0 0]), 3, 40) := by kernel_rfl
theorem pv_new {w : World} {t : TypeId} (x : VtP) {g : Nat} (hg : g = w.heap.size) : ∀ j u, x.cells[j]? = some u → (w.alloc (.cells #[.int .u64 (x.slot : Int), .int .u64 (x.bal : Int), .slice x.A x.val.length x.c] t)).cell? ((⟨g, 0, none⟩ : Addr).add j) = some u := by
  subst hg
  intro j u hu
  rw [Addr.add_lit, Nat.zero_add, (Blk.new w t #[.int .u64 (x.slot : Int), .int .u64 (x.bal : Int), .slice x.A x.val.length x.c]).cell]
  simpa [VtP.cells] using hu
theorem pvC_one (x : VtP) : ∀ u ∈ x.cells, u.oneCell' = true := by
  intro u hu
  simp [VtP.cells] at hu
  rcases hu with rfl | rfl | rfl <;> rfl
theorem push_pv {ops : Array Oper} {rest : List Oper} {o : Oper} {a : Act} {Q : Exit → Act → World → Prop} (hgd : o.guard = none) (s x : Operand)
    (ho : o.op = .call { callee := .builtin .append, args := #[s, x], argTypes := #[35, 35] })
    {W : World} {base m : Nat} {v : Value} {l : List VtP} (y : VtP) {n : Nat} (hn : y.val.length = n) (hs : a.eval s = v) (hown : W.ownsRow base 49 3 v m (pvc l)) (hx : a.eval x = .slice (some ⟨W.heap.size, 0, none⟩) 1 1)
    (hlim : m ≤ 1000000) (hbase : base ≤ W.heap.size)
    (h : ∀ v' w', w'.ownsRow base 49 3 v' (m + 1) (pvc (l ++ [y])) → Mods (fun k => v.ownBlock = some k) W w' → wpList Try.prog ops Q rest (a.put o.dst v') w') :
    wpList Try.prog ops Q (o :: rest) a (W.alloc (.cells #[.int .u64 (y.slot : Int), .int .u64 (y.bal : Int), .slice y.A n y.c] 49)) := by
  subst hn
  obtain ⟨i0, hi0, hz0, hz1, hz2⟩ := info_parts infoVp
  refine wpList_append_own _ hgd s x 35 ho base 49 i0 (.agg #[.int .u64 0, .int .u64 0, .slice none 0 0]) 3 40 Try.underlying35 hi0 hz0 hz1 hz2 rfl (by decide) v m (pvc l) hs (own_mods hown ((Mods.refl Nil W).alloc _) (fun _ _ h => h)) ⟨W.heap.size, 0, none⟩ 1 1 y.cells hx rfl (pv_new y rfl) (pvC_one y) (by unfold maxLen; omega) (by omega) (by simp; omega) ?_
  intro v' w' h1 h2 _
  rw [show pvc l ++ y.cells = pvc (l ++ [y]) by simp [pvc]] at h1
  exact h v' w' h1 (((Mods.refl (fun k => v.ownBlock = some k) W).alloc _).grown h2 (fun k hk _ => hk))
theorem own_nilp {w w0 w' : World} {base m : Nat} {v : Value} {xs : List Value} (ho : w.ownsRow base 49 3 v m xs) (hb : w0.heap.size ≤ base) (h0 : Mods Nil w0 w) (hm : Mods (fun k => v.ownBlock = some k) w w') : Mods Nil w0 w' :=
  h0.nil_trans hm (fun k hk => by have := (ho.lt k hk).1; omega)
/-- A row of the call's own reads as votes. -/
theorem pvs_own {w : World} {base n : Nat} {v : Value} {L : List VtP} {D : Nat → Prop} (h : w.ownsRow base 49 3 v n (pvc L)) (hl : L.length = n) (hD : ∀ k, v.ownBlock = some k → D k)
    (hb : ∀ q ∈ L, Sl w q.A q.c (bts q.val) ∧ (bts q.val ≠ [] → ∀ a, q.A = some a → D a.block) ∧ q.slot < 18446744073709551616 ∧ q.bal < 18446744073709551616) : ∃ A c, v = .slice A n c ∧ PVs w D A c n L := by
  obtain ⟨A, c, rfl, hs, ho⟩ := own_sls h
  exact ⟨A, c, rfl, hl, hs, fun _ a ha => hD _ (ho a ha).1, hb⟩
end Go.Proofs.Ytpabbhhaagfoeaa
