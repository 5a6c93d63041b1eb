/- Plain laws on memory more: an append onto a row of the call's own leaves what the row was. No program. -/
import Derived.Test.YtncmmiecfkfcgaaMem
namespace Go.Proofs.Ytncmmiecfkfcgaa
open Go.RowKit
section
variable {P : Program}
theorem run_append_sl2 (w : World) (base : Nat) (t ty e : TypeId) (i : TypeInfo) (z : Value) (bytes : Nat) (ht : P.underlying t = some (.slice e)) (hi : P.info? e = some i) (hz : i.zero = some z)
    (hsize : i.size = 1) (hby : i.bytes = bytes) (hzs : z.cells.size = 1)
    (v : Value) (n : Nat) (xs : List Value) (hown : w.ownsRow base e 1 v n xs)
    (A : Option Addr) (m c : Nat) (news : List Value) (hm : news.length = m) (hsl : Sl w A c news) (h1 : ∀ u ∈ news, u.oneCell' = true)
    (hbytes : (n + m) * bytes ≤ 140737488355328) (h63 : n + m ≤ maxLen) (hbase : base ≤ w.heap.size) :
    ∃ v' w', (Builtin.append_ #[t, t] ty #[v, .slice A m c]).run P w = .ok v' w' ∧ w'.ownsRow base e 1 v' (n + m) (xs ++ news) ∧ w.grownBy w' v.ownBlock ∧
      (∀ k, v'.ownBlock = some k → v.ownBlock = some k ∨ w.heap.size ≤ k) ∧ (∀ A0 n0 c0, v = .slice A0 n0 c0 → Sl w' A0 c0 xs) := by
  have old0 : ∀ w', Mods Nil w w' → ∀ A0 n0 c0, v = .slice A0 n0 c0 → Sl w' A0 c0 xs := by
    intro w' hm A0 n0 c0 hv
    obtain ⟨A1, c1, hv1, _, hs1, _⟩ := own_slice hown
    rw [hv1] at hv
    injection hv with e1 e2 e3
    subst e1; subst e3
    exact hs1.mods hm (fun _ _ h => h)
  subst hm
  cases A with
  | none =>
    obtain ⟨rfl, rfl⟩ := hsl.of_nil
    have hrun := run_append_owned_none (P := P) (w := w) base t ty e i 1 ht hi v n xs hown
    exact ⟨v, w, hrun, by simpa using hown, ⟨rfl, rfl, rfl, Nat.le_refl _, fun _ _ _ => rfl⟩, fun k hk => .inl hk, old0 _ (Mods.refl _ _)⟩
  | some a =>
    have hc : ∀ j u, news[j]? = some u → w.cell? (a.add j) = some u := by
      intro j u hu
      rcases hsl.has with rfl | ⟨b, off, hA, hcc⟩
      · simp at hu
      · injection hA with hA
        subst hA
        rw [Addr.add_lit]
        exact hcc j u hu
    obtain ⟨v', w', hr, h2, h3, h4⟩ := run_append_own (P := P) w base t ty e i z 1 bytes ht hi hz hsize hby hzs (by omega) v n xs hown a news.length c news (by simp) hc h1 h63 hbytes hbase
    by_cases hroom : ∃ g cap cur, v = .slice (some ⟨g, 0, none⟩) n cap ∧ w.heap[g]? = some (.cells cur e (0, 0)) ∧ n + news.length ≤ cap ∧ cur.size = cap
    · obtain ⟨g, cap, cur, rfl, hg, hle, hcs⟩ := hroom
      have hr2 := run_append_room (P := P) w t ty e i ht hi g n cap cur hg a news.length c news (by rw [hsize]; omega) hc h1 hle (by rw [hsize]; omega)
      rw [hr2] at hr
      injection hr with e1 e2
      subst e1; subst e2
      refine ⟨_, _, hr2, h2, h3, fun k hk => .inl hk, fun A0 n0 c0 hv => ?_⟩
      injection hv with e1 e2 e3
      subst e1; subst e3
      obtain ⟨A1, c1, hv1, _, hs1, _⟩ := own_slice h2
      injection hv1 with e4 e5 e6
      subst e4; subst e6
      have := hs1.take n
      have hxl : xs.length = n := by simpa using hown.1
      rw [List.take_append_of_le_length (show n ≤ xs.length by omega), List.take_of_length_le (show xs.length ≤ n by omega)] at this
      exact this
    · rcases hown.2 with ⟨rfl, rfl⟩ | ⟨g, cap, cur, rfl, hbg, hg, hnc, hcm, hcs, htake⟩
      · obtain rfl : xs = [] := List.eq_nil_of_length_eq_zero (by simpa using hown.1)
        by_cases hm0 : news.length = 0
        · have : v' = .slice none 0 0 := (h4.2 ⟨rfl, hm0⟩)
          subst this
          exact ⟨_, _, hr, h2, h3, (fun k hk => by simp [Value.ownBlock] at hk), fun A0 n0 c0 hv => by injection hv with e1 e2 e3; subst e1; subst e3; exact Sl.none_ _⟩
        · have hr2 := run_append_nil (P := P) w t ty e i z ht hi hz a news.length c news (by rw [hsize]; simp) hc (by omega) (by have := h63; simp only [maxLen] at this; omega) (by have hb := hbytes; simp only [Nat.zero_add] at hb; subst hby; omega)
          rw [hr2] at hr
          injection hr with e1 e2
          subst e1; subst e2
          refine ⟨_, _, hr2, h2, h3, (fun k hk => .inr ?_), fun A0 n0 c0 hv => by injection hv with e1 e2 e3; subst e1; subst e3; exact Sl.none_ _⟩
          simp [Value.ownBlock] at hk
          omega
      · have hgrow : cap < n + news.length := by
          apply Nat.lt_of_not_le
          intro hle
          exact hroom ⟨g, cap, cur, rfl, hg, hle, by omega⟩
        obtain ⟨v2, w2, hr2, h5, h6⟩ := run_append_arg_grows (P := P) w t ty e i z 1 bytes ht hi hz hsize hby hzs (by omega) ⟨g, 0, none⟩ n cap xs (by simpa using hown.1) (hown.cells rfl) a news.length c news (by simp) hc hgrow h63 hbytes
        rw [hr2] at hr
        injection hr with e1 e2
        subst e1; subst e2
        exact ⟨_, _, hr2, h2, h3, (fun k hk => .inr ((h5.lt k hk).1)), old0 _ ((Mods.refl Nil w).grown h6 (fun k hk => by cases hk))⟩

theorem wpList_append_sl2 (w : World) {ops : Array Oper} {rest : List Oper} {o : Oper} {a : Act} {Q : Exit → Act → World → Prop}
    (hg : o.guard = none) (s x : Operand) (t : TypeId) (hop : o.op = Op.call { callee := Callee.builtin Builtin.append, args := #[s, x], argTypes := #[t, t] })
    (base : Nat) (e : TypeId) (i : TypeInfo) (z : Value) (bytes : Nat) (ht : P.underlying t = some (.slice e)) (hi : P.info? e = some i) (hz : i.zero = some z)
    (hsize : i.size = 1) (hby : i.bytes = bytes) (hzs : z.cells.size = 1)
    (v : Value) (n : Nat) (xs : List Value) (hs : a.eval s = v) (hown : w.ownsRow base e 1 v n xs)
    (A : Option Addr) (m c : Nat) (news : List Value) (hx : a.eval x = .slice A m c) (hm : news.length = m) (hsl : Sl w A c news) (h1 : ∀ u ∈ news, u.oneCell' = true)
    (hbytes : (n + m) * bytes ≤ 140737488355328) (h63 : n + m ≤ maxLen) (hbase : base ≤ w.heap.size)
    (hK : ∀ v' w', w'.ownsRow base e 1 v' (n + m) (xs ++ news) → w.grownBy w' v.ownBlock → (∀ k, v'.ownBlock = some k → v.ownBlock = some k ∨ w.heap.size ≤ k) → (∀ A0 n0 c0, v = .slice A0 n0 c0 → Sl w' A0 c0 xs) → wpList P ops Q rest (a.put o.dst v') w') :
    wpList P ops Q (o :: rest) a w := by
  refine wpList_plain hg fun K hK' => ?_
  obtain ⟨v', w', hrun, h2, h3, h4, h5⟩ := run_append_sl2 (P := P) w base t o.type e i z bytes ht hi hz hsize hby hzs v n xs hown A m c news hm hsl h1 hbytes h63 hbase
  unfold Oper.wp
  simp [execOp, hop, resolve, invoke, builtin, hs, hx, hrun, Result.andThen]
  exact hK' _ _ (hK v' w' h2 h3 h4 h5)

end
end Go.Proofs.Ytncmmiecfkfcgaa
