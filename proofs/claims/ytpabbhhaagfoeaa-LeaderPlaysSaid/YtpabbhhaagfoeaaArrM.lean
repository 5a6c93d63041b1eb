/- Texts laid as one: OwnRow, Arr. -/
import Derived.Test.YtpabbhhaagfoeaaMemX
import Derived.RangeFuncBox
import Derived.Deep.RegionHeld
import Derived.Laws.CopyRow
import Derived.Great.BuildSlice
import Derived.StillTailTactics

section
/- Rows of structs of the call's own, whatever their size: an append, one cell set, a front, what is behind it cleared. No program. -/
namespace Go.Proofs.Ytpabbhhaagfoeaa
set_option maxRecDepth 100000
open Go.RowKit
set_option linter.unusedVariables false

section
variable {P : Program}
theorem run_append_rows (w : World) (base : Nat) (t ty e : TypeId) (i : TypeInfo) (z : Value) (size bytes : Nat) (ht : P.underlying t = some (.slice e)) (hi : P.info? e = some i) (hz : i.zero = some z)
    (hsize : i.size = size) (hby : i.bytes = bytes) (hzs : z.cells.size = size) (hpos : 0 < size)
    (v : Value) (n : Nat) (xs : List Value) (hown : w.ownsRow base e size v n xs)
    (a : Addr) (m c : Nat) (news : List Value) (hm : news.length = m * size) (hm0 : 0 < m) (hc : ∀ j u, news[j]? = some u → w.cell? (a.add j) = some u) (h1 : ∀ u ∈ news, u.oneCell' = true)
    (hbytes : (n + m) * bytes ≤ 140737488355328) (h63 : n + m ≤ maxLen) (hbase : base ≤ w.heap.size) :
    ∃ g cap w', (Builtin.append_ #[t, t] ty #[v, .slice (some a) m c]).run P w = .ok (.slice (some ⟨g, 0, none⟩) (n + m) cap) w' ∧ w'.ownsRow base e size (.slice (some ⟨g, 0, none⟩) (n + m) cap) (n + m) (xs ++ news) ∧ w.grownBy w' v.ownBlock ∧
      (v.ownBlock = some g ∨ w.heap.size ≤ g) := by
  obtain ⟨v', w', hr, h2, h3, h4⟩ := run_append_own (P := P) w base t ty e i z size bytes ht hi hz hsize hby hzs hpos v n xs hown a m c news hm hc h1 h63 hbytes hbase
  obtain ⟨m1, rfl⟩ : ∃ m1, m = m1 + 1 := ⟨m - 1, by omega⟩
  obtain ⟨g1, cap1, hv1⟩ := ownsRow_succ (k := n + m1) h2
  rw [Nat.add_assoc] at hv1
  subst hv1
  refine ⟨g1, cap1, w', hr, h2, h3, ?_⟩
  rcases hown.2 with ⟨rfl, rfl⟩ | ⟨g, cap, cur, rfl, hbg, hg, hnc, hcm, hcs, htake⟩
  · have hr2 := run_append_nil (P := P) w t ty e i z ht hi hz a (m1 + 1) c news (by rw [hsize]; exact hm) hc (by omega) (by have := h63; simp only [maxLen] at this; omega) (by have hb := hbytes; simp only [Nat.zero_add] at hb; subst hby; omega)
    rw [hr2] at hr
    injection hr with e1 e2
    injection e1 with e1
    injection e1 with e1
    injection e1 with e1
    exact .inr (by omega)
  · by_cases hle : n + (m1 + 1) ≤ cap
    · have hfit : n * i.size + news.length ≤ cur.size := by
        rw [hsize, hm, hcs, ← Nat.add_mul]
        exact Nat.mul_le_mul_right _ hle
      have hr2 := run_append_room (P := P) w t ty e i ht hi g n cap cur hg a (m1 + 1) c news (by rw [hsize]; exact hm) hc h1 hle hfit
      rw [hr2] at hr
      injection hr with e1 e2
      injection e1 with e1
      injection e1 with e1
      injection e1 with e1
      exact .inl (by simp [Value.ownBlock, e1])
    · obtain ⟨v2, w2, hr2, h5, h6⟩ := run_append_arg_grows (P := P) w t ty e i z size bytes ht hi hz hsize hby hzs hpos ⟨g, 0, none⟩ n cap xs hown.1 (hown.cells rfl) a (m1 + 1) c news hm hc (by omega) h63 hbytes
      rw [hr2] at hr
      injection hr with e1 e2
      subst e1; subst e2
      exact .inr (h5.lt g1 (by simp [Value.ownBlock])).1
/-- The same as one step of a region that draws its order. -/
theorem step_append_rows (w : World) {ops : Array Oper} {o : Oper} {a : Act} {K : Act → World → Prop} {Q : Exit → Act → World → Prop} {E : Prop}
    (hg : o.guard = none) (s x : Operand) (t : TypeId) (hop : o.op = Op.call { callee := Callee.builtin Builtin.append, args := #[s, x], argTypes := #[t, t] })
    (base : Nat) (e : TypeId) (i : TypeInfo) (z : Value) (size bytes : Nat) (ht : P.underlying t = some (.slice e)) (hi : P.info? e = some i) (hz : i.zero = some z)
    (hsize : i.size = size) (hby : i.bytes = bytes) (hzs : z.cells.size = size) (hpos : 0 < size)
    (v : Value) (n : Nat) (xs : List Value) (hs : a.eval s = v) (hown : w.ownsRow base e size v n xs)
    (ad : Addr) (m c : Nat) (news : List Value) (hx : a.eval x = .slice (some ad) m c) (hm : news.length = m * size) (hm0 : 0 < m) (hc : ∀ j u, news[j]? = some u → w.cell? (ad.add j) = some u) (h1 : ∀ u ∈ news, u.oneCell' = true)
    (hbytes : (n + m) * bytes ≤ 140737488355328) (h63 : n + m ≤ maxLen) (hbase : base ≤ w.heap.size)
    (hK : ∀ g cap w', w'.ownsRow base e size (.slice (some ⟨g, 0, none⟩) (n + m) cap) (n + m) (xs ++ news) → w.grownBy w' v.ownBlock → (v.ownBlock = some g ∨ w.heap.size ≤ g) → K (a.put o.dst (.slice (some ⟨g, 0, none⟩) (n + m) cap)) w') :
    if Region.wanted o (yielded ops a.tmps) = true then Oper.wp P o a w K Q else E := by
  have hw : Region.wanted o (yielded ops a.tmps) = true := by simp [Region.wanted, hg]
  rw [if_pos hw]
  obtain ⟨g, cap, w', hrun, h2, h3, h4⟩ := run_append_rows (P := P) w base t o.type e i z size bytes ht hi hz hsize hby hzs hpos v n xs hown ad m c news hm hm0 hc h1 hbytes h63 hbase
  unfold Oper.wp
  simp [execOp, hop, resolve, invoke, builtin, hs, hx, hrun, Result.andThen]
  exact hK _ _ _ h2 h3 h4

/-- An own row's place, its cells. -/
theorem own_place {w : World} {base n size : Nat} {e : TypeId} {v : Value} {xs : List Value} (h : w.ownsRow base e size v n xs) (hn : 0 < n) :
    ∃ g cap cur, v = .slice (some ⟨g, 0, none⟩) n cap ∧ base ≤ g ∧ g < w.heap.size ∧ Blk w g e cur ∧ n ≤ cap ∧ cap ≤ maxLen ∧ cur.size = cap * size ∧ cur.toList.take (n * size) = xs ∧ (∀ j u, xs[j]? = some u → w.cell? ⟨g, j, none⟩ = some u) ∧ (∀ j, w.frozen? ⟨g, j, none⟩ = false) := by
  have hcells := fun g hg j u hu => h.cells (g := g) hg j u hu
  rcases h.2 with ⟨rfl, rfl⟩ | ⟨g, cap, cur, rfl, hb, hgg, h1, h2, h3, h4⟩
  · omega
  · have hB : Blk w g e cur := hgg
    refine ⟨g, cap, cur, rfl, hb, hB.lt, hB, h1, h2, h3, h4, fun j u hu => ?_, fun j => hB.frozen j⟩
    have := hcells g rfl j u hu
    rwa [Addr.add_lit, Nat.zero_add] at this
/-- One cell of it is another one. -/
theorem own_cell_set {w : World} {base n size g cap : Nat} {e : TypeId} {xs : List Value} (h : w.ownsRow base e size (.slice (some ⟨g, 0, none⟩) n cap) n xs) (j : Nat) (u : Value) :
    (w.setCell ⟨g, j, none⟩ u).ownsRow base e size (.slice (some ⟨g, 0, none⟩) n cap) n (xs.set j u) := by
  have hl := h.1
  rcases h.2 with ⟨hv, _⟩ | ⟨g', cap', cur, hv, hb, hgg, h1, h2, h3, h4⟩
  · cases hv
  · injection hv with e1 e2 e3
    injection e1 with e1
    injection e1 with e1
    subst e1; subst e3
    have hB : Blk w g e cur := hgg
    refine ⟨by simpa using hl, .inr ⟨g, cap, cur.setIfInBounds j u, rfl, hb, hB.set_ j u, h1, h2, by simpa using h3, ?_⟩⟩
    simp only [Array.toList_setIfInBounds, List.take_set, h4]
/-- Its front. -/
theorem own_front {w : World} {base n size g cap : Nat} {e : TypeId} {xs : List Value} (h : w.ownsRow base e size (.slice (some ⟨g, 0, none⟩) n cap) n xs) {k : Nat} (hk : k ≤ n) :
    w.ownsRow base e size (.slice (some ⟨g, 0, none⟩) k cap) k (xs.take (k * size)) := by
  have hl := h.1
  have hks : k * size ≤ n * size := Nat.mul_le_mul_right _ hk
  rcases h.2 with ⟨hv, _⟩ | ⟨g', cap', cur, hv, hb, hgg, h1, h2, h3, h4⟩
  · cases hv
  · injection hv with e1 e2 e3
    injection e1 with e1
    injection e1 with e1
    subst e1; subst e3
    refine ⟨by simp; omega, .inr ⟨g, cap, cur, rfl, hb, hgg, by omega, h2, h3, ?_⟩⟩
    rw [← h4, List.take_take, Nat.min_eq_left hks]
/-- The row's cells from o on are others: what is ahead of them stays. -/
theorem own_beyond {w : World} {base n size g cap o : Nat} {e : TypeId} {xs : List Value} (h : w.ownsRow base e size (.slice (some ⟨g, 0, none⟩) n cap) n xs) (ho : n * size ≤ o) (zs : List Value) {cur : Array Value} (hB : Blk w g e cur) (hfit : o + zs.length ≤ cur.size) :
    (w.setRow g (cur.toList.take o ++ zs ++ cur.toList.drop (o + zs.length)).toArray).ownsRow base e size (.slice (some ⟨g, 0, none⟩) n cap) n xs := by
  have hl := h.1
  rcases h.2 with ⟨hv, _⟩ | ⟨g', cap', cur', hv, hb, hgg, h1, h2, h3, h4⟩
  · cases hv
  · injection hv with e1 e2 e3
    injection e1 with e1
    injection e1 with e1
    subst e1; subst e3
    have hcc : cur' = cur := by
      have : some (Obj.cells cur' e (0, 0)) = some (Obj.cells cur e (0, 0)) := hgg.symm.trans hB
      injection this with this
      injection this
    subst hcc
    refine ⟨hl, .inr ⟨g, cap, _, rfl, hb, hB.setRow _, h1, h2, ?_, ?_⟩⟩
    · simp; omega
    · have hlen : (cur'.toList.take o).length = o := by simp; omega
      simp only [List.append_assoc]
      rw [List.take_append_of_le_length (by omega), List.take_take, Nat.min_eq_left ho, h4]
/-- 'clear' of what stands behind a row's front. -/
theorem run_clear_rows {w : World} {base n size g cap : Nat} {e t ty : TypeId} {i : TypeInfo} {z : Value} {xs : List Value} (h : w.ownsRow base e size (.slice (some ⟨g, 0, none⟩) n cap) n xs)
    (ht : P.underlying t = some (.slice e)) (hi : P.info? e = some i) (hz : i.zero = some z) (hzs : z.cells.size = size) (hz1 : ∀ u ∈ z.cells.toList, u.oneCell' = true)
    {A : Option Addr} {m c o : Nat} (hA : 0 < m → A = some ⟨g, o, none⟩ ∧ n * size ≤ o ∧ o + m * size ≤ cap * size) :
    ∃ w', (Builtin.clear_ #[t] ty #[.slice A m c]).run P w = .ok (.tuple #[]) w' ∧ w'.ownsRow base e size (.slice (some ⟨g, 0, none⟩) n cap) n xs ∧ Mods (fun k => k = g) w w' := by
  by_cases hm : m = 0
  · subst hm
    refine ⟨w, ?_, h, Mods.refl _ _⟩
    cases A <;> simp [Builtin.clear_, run_underlying ht]
  · obtain ⟨rfl, ho, hfit⟩ := hA (by omega)
    obtain ⟨cur, hB, h3⟩ : ∃ cur, Blk w g e cur ∧ cur.size = cap * size := by
      rcases h.2 with ⟨hv, _⟩ | ⟨g', cap', cur', hv, hb, hgg, h1, h2, h3, h4⟩
      · cases hv
      · injection hv with e1 e2 e3
        injection e1 with e1
        injection e1 with e1
        subst e1; subst e3
        exact ⟨cur', hgg, h3⟩
    obtain ⟨zs, hzz⟩ : ∃ zs, (Builtin.zeroCells z.cells m).toList = zs := ⟨_, rfl⟩
    have hzl : zs.length = m * size := by rw [← hzz]; simp [Builtin.zeroCells, hzs]
    have hone : ∀ u ∈ zs, u.oneCell' = true := by
      intro u hu
      rw [← hzz] at hu
      simp [Builtin.zeroCells] at hu
      obtain ⟨k, hk, rfl⟩ := hu
      have hpos : 0 < z.cells.size := by
        rcases Nat.eq_zero_or_pos z.cells.size with h0 | h0
        · rw [h0] at hk; omega
        · exact h0
      have hlt := Nat.mod_lt k hpos
      rw [getElem!_pos z.cells (k % z.cells.size) hlt]
      exact hz1 _ (by simp)
    have hst := run_storeCells_at P g o e zs 0 cur w hB (by omega) hone
    simp only [Nat.add_zero] at hst
    obtain ⟨m1, rfl⟩ : ∃ m1, m = m1 + 1 := ⟨m - 1, by omega⟩
    refine ⟨w.setRow g (cur.toList.take o ++ zs ++ cur.toList.drop (o + zs.length)).toArray, ?_, own_beyond h ho zs hB (by omega), Mods.setRow (S := fun k => k = g) (Mods.refl _ _) (fun _ => rfl) _⟩
    have hzv : (zeroValue e).run P w = .ok z w := by simp [zeroValue, typeInfo, hi, hz]
    simp [Builtin.clear_, run_underlying ht, hzv, hzz, hst]
theorem wpList_clear_rows {ops : Array Oper} {rest : List Oper} {o : Oper} {a : Act} {w : World} {Q : Exit → Act → World → Prop} (hg : o.guard = none) (s : Operand) (t : TypeId)
    (hop : o.op = Op.call { callee := Callee.builtin Builtin.clear, args := #[s], argTypes := #[t] })
    (base n size g cap : Nat) (e : TypeId) (i : TypeInfo) (z : Value) (xs : List Value) (h : w.ownsRow base e size (.slice (some ⟨g, 0, none⟩) n cap) n xs)
    (ht : P.underlying t = some (.slice e)) (hi : P.info? e = some i) (hz : i.zero = some z) (hzs : z.cells.size = size) (hz1 : ∀ u ∈ z.cells.toList, u.oneCell' = true)
    (A : Option Addr) (m c p : Nat) (hs : a.eval s = .slice A m c) (hA : 0 < m → A = some ⟨g, p, none⟩ ∧ n * size ≤ p ∧ p + m * size ≤ cap * size)
    (hK : ∀ w', w'.ownsRow base e size (.slice (some ⟨g, 0, none⟩) n cap) n xs → Mods (fun k => k = g) w w' → wpList P ops Q rest (a.put o.dst (.tuple #[])) w') :
    wpList P ops Q (o :: rest) a w := by
  refine wpList_plain hg fun K hK' => ?_
  obtain ⟨w', hrun, h2, h3⟩ := run_clear_rows (P := P) (ty := o.type) h ht hi hz hzs hz1 (m := m) (c := c) hA
  unfold Oper.wp
  simp [execOp, hop, resolve, invoke, builtin, hs, hrun, Result.andThen]
  exact hK' _ _ (hK w' h2 h3)
/-- 'append(s[:k], s[k+1:]...)': one element of a row is taken out. -/
theorem run_append_out {w : World} {base n size g cap : Nat} {e t ty : TypeId} {i : TypeInfo} {xs : List Value} (h : w.ownsRow base e size (.slice (some ⟨g, 0, none⟩) n cap) n xs)
    (ht : P.underlying t = some (.slice e)) (hi : P.info? e = some i) (hsize : i.size = size) (h1 : ∀ u ∈ xs, u.oneCell' = true) {k : Nat} (hk : k < n)
    {A : Addr} {c : Nat} (hA : k + 1 < n → A = ⟨g, (k + 1) * size, none⟩) :
    ∃ w', (Builtin.append_ #[t, t] ty #[.slice (some ⟨g, 0, none⟩) k cap, .slice (some A) (n - (k + 1)) c]).run P w = .ok (.slice (some ⟨g, 0, none⟩) (n - 1) cap) w' ∧
      w'.ownsRow base e size (.slice (some ⟨g, 0, none⟩) (n - 1) cap) (n - 1) (xs.take (k * size) ++ xs.drop ((k + 1) * size)) ∧ Mods (fun k => k = g) w w' := by
  obtain ⟨g', cap', cur, hv, hb, hgl, hB, hnc, hcm, hcs, htk, hcl, -⟩ := own_place h (by omega)
  injection hv with e1 e2 e3
  injection e1 with e1
  injection e1 with e1
  subst e1; subst e3
  have hl := h.1
  have hl1 : (xs.drop ((k + 1) * size)).length = (n - (k + 1)) * size := by simp; rw [hl, Nat.sub_mul]
  have hle1 : k * size + (n - (k + 1)) * size ≤ cap * size := by rw [← Nat.add_mul]; exact Nat.mul_le_mul_right _ (by omega)
  have hr := run_append_room (P := P) w t ty e i ht hi g k cap cur hB A (n - (k + 1)) c (xs.drop ((k + 1) * size)) (by rw [hsize]; exact hl1) (fun j u hu => by
    by_cases hlt : k + 1 < n
    · rw [hA hlt, Addr.add_lit]
      rw [List.getElem?_drop] at hu
      exact hcl _ _ hu
    · have : n - (k + 1) = 0 := by omega
      rw [this, Nat.zero_mul] at hl1
      rw [List.eq_nil_of_length_eq_zero hl1] at hu
      simp at hu) (fun u hu => h1 u (List.mem_of_mem_drop hu)) (by omega) (by rw [hsize, hl1, hcs]; exact hle1)
  rw [hsize, show k + (n - (k + 1)) = n - 1 by omega] at hr
  have hks : k * size ≤ n * size := Nat.mul_le_mul_right _ (by omega)
  have hcn : n * size ≤ cap * size := Nat.mul_le_mul_right _ hnc
  have hfront : (cur.toList.take (k * size)) = xs.take (k * size) := by rw [← htk, List.take_take, Nat.min_eq_left hks]
  have hfl : (xs.take (k * size)).length = k * size := by simp; omega
  have hn1 : (n - 1) * size = k * size + (n - (k + 1)) * size := by rw [← Nat.add_mul]; congr 1; omega
  refine ⟨_, hr, ⟨?_, .inr ⟨g, cap, _, rfl, hb, hB.setRow _, by omega, hcm, ?_, ?_⟩⟩, Mods.setRow (S := fun k => k = g) (Mods.refl _ _) (fun _ => rfl) _⟩
  · rw [List.length_append, hfl, hl1, hn1]
  · simp only [List.size_toArray, List.length_append, List.length_drop, Array.length_toList]
    rw [hfront, hfl, show xs.length - (k + 1) * size = (n - (k + 1)) * size by rw [← hl1]; simp, hcs]
    omega
  · rw [hfront]
    simp only []
    have htot : (xs.take (k * size) ++ xs.drop ((k + 1) * size)).length = (n - 1) * size := by rw [List.length_append, hfl, hl1, hn1]
    rw [List.take_append_of_le_length (Nat.le_of_eq htot.symm), List.take_of_length_le (Nat.le_of_eq htot)]
theorem step_append_out (w : World) {ops : Array Oper} {o : Oper} {a : Act} {K : Act → World → Prop} {Q : Exit → Act → World → Prop} {E : Prop}
    (hg : o.guard = none) (s x : Operand) (t : TypeId) (hop : o.op = Op.call { callee := Callee.builtin Builtin.append, args := #[s, x], argTypes := #[t, t] })
    (base n size g cap : Nat) (e : TypeId) (i : TypeInfo) (xs : List Value) (h : w.ownsRow base e size (.slice (some ⟨g, 0, none⟩) n cap) n xs)
    (ht : P.underlying t = some (.slice e)) (hi : P.info? e = some i) (hsize : i.size = size) (h1 : ∀ u ∈ xs, u.oneCell' = true) (k : Nat) (hk : k < n)
    (A : Addr) (c : Nat) (hs : a.eval s = .slice (some ⟨g, 0, none⟩) k cap) (hx : a.eval x = .slice (some A) (n - (k + 1)) c) (hA : k + 1 < n → A = ⟨g, (k + 1) * size, none⟩)
    (hK : ∀ w', w'.ownsRow base e size (.slice (some ⟨g, 0, none⟩) (n - 1) cap) (n - 1) (xs.take (k * size) ++ xs.drop ((k + 1) * size)) → Mods (fun k => k = g) w w' → K (a.put o.dst (.slice (some ⟨g, 0, none⟩) (n - 1) cap)) w') :
    if Region.wanted o (yielded ops a.tmps) = true then Oper.wp P o a w K Q else E := by
  have hw : Region.wanted o (yielded ops a.tmps) = true := by simp [Region.wanted, hg]
  rw [if_pos hw]
  obtain ⟨w', hrun, h2, h3⟩ := run_append_out (P := P) (ty := o.type) (c := c) h ht hi hsize h1 hk hA
  unfold Oper.wp
  simp [execOp, hop, resolve, invoke, builtin, hs, hx, hrun, Result.andThen]
  exact hK _ h2 h3
end
end Go.Proofs.Ytpabbhhaagfoeaa
end

section
/- Arrays and structs by value in the middle of a row of the call's own: read, written, copied into. No program. -/
namespace Go.Proofs.Ytpabbhhaagfoeaa
set_option maxRecDepth 100000
open Go.RowKit
set_option linter.unusedVariables false

theorem flat_length {α : Type} {f : α → List Value} {s : Nat} : ∀ {l : List α}, (∀ x ∈ l, (f x).length = s) → (l.flatMap f).length = l.length * s
  | [], _ => by simp
  | x :: l, h => by
    rw [List.flatMap_cons, List.length_append, h x List.mem_cons_self, flat_length (fun y hy => h y (List.mem_cons_of_mem _ hy)), List.length_cons, Nat.add_mul]
    omega
theorem flat_at {α : Type} {f : α → List Value} {s : Nat} : ∀ {l : List α}, (∀ x ∈ l, (f x).length = s) → ∀ (k : Nat) (h : k < l.length) (j : Nat), j < s → (l.flatMap f)[k * s + j]? = (f l[k])[j]?
  | x :: l, h, 0, _, j, hj => by
    have := h x List.mem_cons_self
    rw [List.flatMap_cons, List.getElem?_append_left (by omega)]
    simp
  | x :: l, h, k + 1, hk, j, hj => by
    have h0 := h x List.mem_cons_self
    rw [List.flatMap_cons, List.getElem?_append_right (by rw [h0, Nat.add_mul]; omega), h0, show (k + 1) * s + j - s = k * s + j by rw [Nat.add_mul]; omega]
    exact flat_at (fun y hy => h y (List.mem_cons_of_mem _ hy)) k (by simpa using hk) j hj
theorem flat_set {α : Type} {f : α → List Value} {s : Nat} : ∀ {l : List α}, (∀ x ∈ l, (f x).length = s) → ∀ (k : Nat) (h : k < l.length) (y : α), (f y).length = s → (l.flatMap f).take (k * s) ++ f y ++ (l.flatMap f).drop (k * s + s) = (l.set k y).flatMap f
  | x :: l, h, 0, _, y, hy => by
    have h0 := h x List.mem_cons_self
    simp only [Nat.zero_mul, List.take_zero, List.nil_append, List.set_cons_zero, List.flatMap_cons, Nat.zero_add]
    rw [← h0, List.drop_append_of_le_length (Nat.le_refl _), List.drop_length, List.nil_append]
  | x :: l, h, k + 1, hk, y, hy => by
    have h0 := h x List.mem_cons_self
    have ih := flat_set (fun z hz => h z (List.mem_cons_of_mem _ hz)) k (by simpa using hk) y hy
    rw [List.set_cons_succ, List.flatMap_cons, List.flatMap_cons, ← ih, show (k + 1) * s = (f x).length + k * s by rw [h0, Nat.add_mul]; omega, Nat.add_assoc, List.take_length_add_append, List.drop_length_add_append]
    simp
theorem splice_length {α : Type} {xs vs : List α} {o : Nat} (h : o + vs.length ≤ xs.length) : (xs.take o ++ vs ++ xs.drop (o + vs.length)).length = xs.length := by
  simp only [List.length_append, List.length_take, List.length_drop]; omega
/-- A part of what is spliced is spliced. -/
theorem splice_part {α : Type} {xs vs ys : List α} {o p : Nat} (h1 : o + (p + vs.length) ≤ o + ys.length) (h2 : o + ys.length ≤ xs.length) :
    xs.take o ++ (ys.take p ++ vs ++ ys.drop (p + vs.length)) ++ xs.drop (o + ys.length) = (xs.take o ++ ys ++ xs.drop (o + ys.length)).take (o + p) ++ vs ++ (xs.take o ++ ys ++ xs.drop (o + ys.length)).drop (o + p + vs.length) := by
  have hl : (xs.take o).length = o := by simp; omega
  have e1 : (xs.take o ++ ys ++ xs.drop (o + ys.length)).take (o + p) = xs.take o ++ ys.take p := by
    rw [List.append_assoc]
    conv => lhs; rw [← hl]
    rw [hl, show o + p = (xs.take o).length + p by rw [hl], List.take_length_add_append, List.take_append_of_le_length (by omega)]
  have e2 : (xs.take o ++ ys ++ xs.drop (o + ys.length)).drop (o + p + vs.length) = ys.drop (p + vs.length) ++ xs.drop (o + ys.length) := by
    rw [List.append_assoc, show o + p + vs.length = (xs.take o).length + (p + vs.length) by rw [hl]; omega, List.drop_length_add_append, List.drop_append_of_le_length (by omega)]
  rw [e1, e2]
  simp
section
variable {w : World} {base n size g cap : Nat} {e : TypeId} {v : Value} {xs : List Value}
/-- A part of a row of the call's own, as a range. -/
theorem own_rangeAt (h : w.ownsRow base e size (.slice (some ⟨g, 0, none⟩) n cap) n xs) {o : Nat} {cs : List Value} (hc : ∀ j u, cs[j]? = some u → xs[o + j]? = some u) : w.rangeAt g o cs := by
  intro j u hu
  have := h.cells (g := g) rfl (o + j) u (hc j u hu)
  rwa [Addr.add_lit, Nat.zero_add] at this
theorem own_there (h : w.ownsRow base e size (.slice (some ⟨g, 0, none⟩) n cap) n xs) {o m : Nat} (hm : o + m ≤ n * size) : w.there g o m := by
  have hl := h.1
  intro j hj
  have hlt : o + j < xs.length := by omega
  have hc := h.cells (g := g) rfl (o + j) _ (List.getElem?_eq_getElem hlt)
  rw [Addr.add_lit, Nat.zero_add] at hc
  refine ⟨by rw [hc]; rfl, ?_⟩
  rcases h.2 with ⟨hv, _⟩ | ⟨g', cap', cur, hv, hb, hgg, h1, h2, h3, h4⟩
  · cases hv
  · injection hv with e1 e2 e3
    injection e1 with e1
    injection e1 with e1
    subst e1
    exact Blk.frozen (w := w) hgg _
theorem setCells_mods : ∀ (vs : List Value) (o : Nat) (w : World), Mods (fun k => k = g) w (w.setCells g o vs)
  | [], o, w => Mods.refl _ _
  | u :: r, o, w => (Mods.setCell (S := fun k => k = g) (p := ⟨g, o, none⟩) (Mods.refl _ w) (fun _ => rfl) u).trans2 (setCells_mods r (o + 1) _) (fun _ _ h => h)
theorem set_splice (xs : List Value) (o : Nat) (u : Value) (r : List Value) (h : o + (r.length + 1) ≤ xs.length) : (xs.set o u).take (o + 1) ++ r ++ (xs.set o u).drop (o + 1 + r.length) = xs.take o ++ (u :: r) ++ xs.drop (o + (r.length + 1)) := by
  have e1 : (xs.set o u).take (o + 1) = xs.take o ++ [u] := by
    rw [List.take_succ_eq_append_getElem (by simp; omega), List.take_set, List.set_eq_of_length_le (by simp; omega)]
    simp
  have e2 : (xs.set o u).drop (o + 1 + r.length) = xs.drop (o + (r.length + 1)) := by
    rw [List.drop_set_of_lt (by omega)]
    congr 1
    omega
  rw [e1, e2]
  simp
/-- Cells of it are others. -/
theorem own_setCells : ∀ (vs : List Value) (o : Nat) (w : World) (xs : List Value), w.ownsRow base e size (.slice (some ⟨g, 0, none⟩) n cap) n xs → o + vs.length ≤ xs.length →
    (w.setCells g o vs).ownsRow base e size (.slice (some ⟨g, 0, none⟩) n cap) n (xs.take o ++ vs ++ xs.drop (o + vs.length))
  | [], o, w, xs, h, _ => by simpa [World.setCells] using h
  | u :: r, o, w, xs, h, hl => by
    have h1 := own_cell_set h o u
    have := own_setCells r (o + 1) (w.setCell ⟨g, o, none⟩ u) (xs.set o u) h1 (by simp at hl ⊢; omega)
    rw [set_splice xs o u r (by simpa using hl)] at this
    exact this
/-- A whole element of it is another one. -/
theorem own_put {α : Type} {f : α → List Value} {l : List α} (h : w.ownsRow base e size (.slice (some ⟨g, 0, none⟩) n cap) n (l.flatMap f)) (hf : ∀ x ∈ l, (f x).length = size) {k : Nat} (hk : k < l.length) {y : α} (hy : (f y).length = size) :
    (w.setCells g (k * size) (f y)).ownsRow base e size (.slice (some ⟨g, 0, none⟩) n cap) n ((l.set k y).flatMap f) := by
  have hl := flat_length hf
  have hk1 : k * size + size ≤ l.length * size := by rw [← Nat.succ_mul]; exact Nat.mul_le_mul_right _ hk
  have := own_setCells (f y) (k * size) w (l.flatMap f) h (by omega)
  rw [hy, flat_set hf k hk y hy] at this
  exact this
end
section
variable {P : Program}
/-- 'copy' into a row that is known whole. -/
theorem run_copy_sl (w : World) (dT sT ty elem : TypeId) (hu : P.underlying dT = some (.slice elem)) (hs : (P.info? elem).map (·.size) = some 1) {g o m dCap : Nat} {t : TypeId} {cur : Array Value} (hB : Blk w g t cur)
    (A : Option Addr) (n c : Nat) (xs : List Value) (hsl : Sl w A c xs) (hn : xs.length = n) (h1 : ∀ u ∈ xs, u.oneCell' = true) (hnm : n ≤ m) (hfit : o + n ≤ cur.size) :
    (Builtin.copy_ #[dT, sT] ty #[.slice (some ⟨g, o, none⟩) m dCap, .slice A n c]).run P w = .ok (goInt n) (w.setRow g (cur.toList.take o ++ xs ++ cur.toList.drop (o + n)).toArray) := by
  subst hn
  cases A with
  | none =>
    obtain ⟨rfl, rfl⟩ := hsl.of_nil
    have := run_copy_nil (P := P) w dT sT ty elem ⟨g, o, none⟩ m dCap hu (by cases hq : P.info? elem with | none => simp [hq] at hs | some i => simp)
    have e : (w.setRow g (cur.toList.take o ++ [] ++ cur.toList.drop (o + ([] : List Value).length)).toArray) = w := by simpa using setRow_self w g cur t (0, 0) hB
    rw [e]
    simpa using this
  | some a =>
    exact run_copy_row (P := P) w dT sT ty elem g o m dCap a xs.length c cur t xs hu hs hB (by simp [Nat.min_eq_left hnm]) (fun j u hu => by
      rcases hsl.has with rfl | ⟨b, off, hA, hc⟩
      · simp at hu
      · injection hA with hA
        subst hA
        rw [Addr.add_lit]
        exact hc j u hu) hfit h1
theorem wp_copy_sl {o : Oper} {a : Act} {w : World} {K : Act → World → Prop} {Q : Exit → Act → World → Prop} (d s : Operand) (dT sT : TypeId) (hop : o.op = Op.call { callee := Callee.builtin Builtin.copy, args := #[d, s], argTypes := #[dT, sT] })
    (elem : TypeId) (hu : P.underlying dT = some (.slice elem)) (hs : (P.info? elem).map (·.size) = some 1) (g off m dCap : Nat) (t : TypeId) (cur : Array Value) (hd : a.eval d = .slice (some ⟨g, off, none⟩) m dCap) (hB : Blk w g t cur)
    (A : Option Addr) (n c : Nat) (xs : List Value) (hx : a.eval s = .slice A n c) (hsl : Sl w A c xs) (hn : xs.length = n) (h1 : ∀ u ∈ xs, u.oneCell' = true) (hnm : n ≤ m) (hfit : off + n ≤ cur.size)
    (hK : K (a.put o.dst (goInt n)) (w.setRow g (cur.toList.take off ++ xs ++ cur.toList.drop (off + n)).toArray)) : o.wp P a w K Q := by
  have hrun := run_copy_sl (P := P) w dT sT o.type elem hu hs (m := m) (dCap := dCap) hB A n c xs hsl hn h1 hnm hfit
  simp only [List.append_assoc] at hK hrun
  unfold Oper.wp
  simp [execOp, hop, resolve, invoke, builtin, hd, hx, hrun, Result.andThen]
  unfold Oper.upon
  exact hK
theorem wpList_copy_sl {ops : Array Oper} {rest : List Oper} {o : Oper} {a : Act} {w : World} {Q : Exit → Act → World → Prop} (hg : o.guard = none) (d s : Operand) (dT sT : TypeId) (hop : o.op = Op.call { callee := Callee.builtin Builtin.copy, args := #[d, s], argTypes := #[dT, sT] })
    (elem : TypeId) (hu : P.underlying dT = some (.slice elem)) (hs : (P.info? elem).map (·.size) = some 1) (g off m dCap : Nat) (t : TypeId) (cur : Array Value) (hd : a.eval d = .slice (some ⟨g, off, none⟩) m dCap) (hB : Blk w g t cur)
    (A : Option Addr) (n c : Nat) (xs : List Value) (hx : a.eval s = .slice A n c) (hsl : Sl w A c xs) (hn : xs.length = n) (h1 : ∀ u ∈ xs, u.oneCell' = true) (hnm : n ≤ m) (hfit : off + n ≤ cur.size)
    (hK : wpList P ops Q rest (a.put o.dst (goInt n)) (w.setRow g (cur.toList.take off ++ xs ++ cur.toList.drop (off + n)).toArray)) : wpList P ops Q (o :: rest) a w :=
  wpList_plain hg fun _ hK' => wp_copy_sl d s dT sT hop elem hu hs g off m dCap t cur hd hB A n c xs hx hsl hn h1 hnm hfit (hK' _ _ hK)
/-- The same, the new world told by what it holds alone. -/
theorem wpList_copy_mk {ops : Array Oper} {rest : List Oper} {o : Oper} {a : Act} {w : World} {Q : Exit → Act → World → Prop} (hg : o.guard = none) (d s : Operand) (dT sT : TypeId) (hop : o.op = Op.call { callee := Callee.builtin Builtin.copy, args := #[d, s], argTypes := #[dT, sT] })
    (elem : TypeId) (hu : P.underlying dT = some (.slice elem)) (hs : (P.info? elem).map (·.size) = some 1) (g off m dCap : Nat) (t : TypeId) (cur new : Array Value) (hd : a.eval d = .slice (some ⟨g, off, none⟩) m dCap) (hB : Blk w g t cur)
    (A : Option Addr) (n c : Nat) (xs : List Value) (hx : a.eval s = .slice A n c) (hsl : Sl w A c xs) (hn : xs.length = n) (h1 : ∀ u ∈ xs, u.oneCell' = true) (hnm : n ≤ m) (hfit : off + n ≤ cur.size) (hnew : (cur.toList.take off ++ xs ++ cur.toList.drop (off + n)).toArray = new)
    (hK : ∀ W, Blk W g t new → Mods (fun i => i = g) w W → wpList P ops Q rest (a.put o.dst (goInt n)) W) : wpList P ops Q (o :: rest) a w :=
  wpList_copy_sl hg d s dT sT hop elem hu hs g off m dCap t cur hd hB A n c xs hx hsl hn h1 hnm hfit (hK _ (by rw [hnew]; exact hB.setRow new) (Mods.setRow (S := fun i => i = g) (Mods.refl _ _) (fun _ => rfl) _))
theorem wpList_build_at {ops : Array Oper} {rest : List Oper} {o : Oper} {a : Act} {w : World} {Q : Exit → Act → World → Prop} (hg : o.guard = none) (t : TypeId) (parts : Array (Nat × Operand)) (ho : o.op = .build t parts) (cells : Array Value)
    (hf : P.built t (parts.map fun (i, x) => (i, a.eval x)).toList = some cells) (h : wpList P ops Q rest (a.put o.dst (.agg cells)) w) : wpList P ops Q (o :: rest) a w :=
  wpList_build hg t parts ho (by rw [hf]; rfl) (by rw [hf]; exact h)
theorem fill_one {v : Value} {s : Nat} {cells : Array Value} (hs : 0 < s) (hv : v.cells.size = s) (hc : cells.size = s) : Instr.fill (fun i => some (i * s, s)) cells [(0, v)] = some v.cells := by
  obtain ⟨r, h1, h2, h3⟩ := Great.fill_dense hs [v] 0 cells (by simpa using hv) (by simp [hc])
  have e : ([v].zipIdx 0).map (fun x => (x.2, x.1)) = [(0, v)] := rfl
  rw [e] at h1
  rw [h1]
  congr 1
  apply Array.ext_getElem?
  intro k
  rw [h3 k]
  by_cases hk : k < s
  · rw [if_pos (by simp; exact hk), Nat.div_eq_of_lt hk, Nat.mod_eq_of_lt hk]
    simp
  · rw [if_neg (by simp; omega), Array.getElem?_eq_none (by omega), Array.getElem?_eq_none (by omega)]
/-- A slice literal of one element of many cells. -/
theorem wp_build_one {o : Oper} {a : Act} {w : World} {K : Act → World → Prop} {Q : Exit → Act → World → Prop} (t e : TypeId) (x : Operand) (ho : o.op = .buildSlice t 1 #[(0, x)]) (cs : Array Value) (hx : a.eval x = .agg cs) (hc : (Value.agg cs).cells = cs) (ie : TypeInfo) (z : Value) (s : Nat)
    (hu : P.underlying t = some (.slice e)) (hie : P.info? e = some ie) (hz : ie.zero = some z) (hsz : ie.size = s) (hs : 0 < s) (hsmall : s ≤ 16777216) (hcs : cs.size = s)
    (h : K (a.put o.dst (.slice (some ⟨w.heap.size, 0, none⟩) 1 1)) (w.alloc (.cells cs e))) : o.wp P a w K Q := by
  subst hsz
  refine wp_buildSlice t e 1 #[(0, x)] ho cs ie z hu hie hz (by omega) (by omega) ?_ h
  have e1 : (#[(0, x)].map fun (y : Nat × Operand) => match y with | (i, x) => (i, a.eval x)).toList = [(0, .agg cs)] := by simp [hx]
  rw [e1]
  have := fill_one (v := .agg cs) (cells := ((Array.range (1 * ie.size)).map (z.cells[· % z.cells.size]!))) hs (by rw [hc, hcs]) (by simp)
  rw [hc] at this
  exact this
/-- A whole array or struct is loaded, as one of the operations ahead of a drawn region's last one. -/
theorem wpStill_load_mid {ops : Array Oper} {w : World} {Q : Act → Prop} {a : Act} {op : Oper} {rest : List Oper} (hgd : op.guard = none) (ty : TypeId) (x : Operand) (ho : op.op = .load ty x)
    (b o : Nat) (hx : a.eval x = .pointer (some ⟨b, o, none⟩)) (cs : List Value) (d : TypeDesc) (hc : w.rangeAt b o cs)
    (hu : P.underlying ty = some d) (hd : d.isRow = true) (hi : (P.info? ty).map (·.size) = some cs.length)
    (h : wpStill P ops w Q rest (a.put op.dst (.agg cs.toArray))) : wpStill P ops w Q (op :: rest) a := by
  refine wpStill_step (fun K hK => ?_)
  rw [if_pos (by simp [Region.wanted, hgd])]
  unfold Oper.still execOp
  simp only [ho, hx, Instr.loadAt, Instr.sureAddr, Sem.run_bind, Sem.run_pure, Result.andThen_ok, run_loadVar_mid w b o ty cs d hc hu hd hi]
  rw [Oper.stillUpon_value]
  exact hK _ h
/-- A row whose cells from o on are others. -/
theorem own_row {w : World} {base n size g cap : Nat} {e : TypeId} {xs : List Value} (h : w.ownsRow base e size (.slice (some ⟨g, 0, none⟩) n cap) n xs) {cur : Array Value} (hB : Blk w g e cur) {o : Nat} {vs : List Value} (hfit : o + vs.length ≤ n * size) :
    (w.setRow g (cur.toList.take o ++ vs ++ cur.toList.drop (o + vs.length)).toArray).ownsRow base e size (.slice (some ⟨g, 0, none⟩) n cap) n (xs.take o ++ vs ++ xs.drop (o + vs.length)) := by
  have hl := h.1
  rcases h.2 with ⟨hv, _⟩ | ⟨g', cap', cur', hv, hb, hgg, h1, h2, h3, h4⟩
  · cases hv
  · injection hv with e1 e2 e3
    injection e1 with e1
    injection e1 with e1
    subst e1; subst e3
    have hcc : cur' = cur := by
      have : some (Obj.cells cur' e (0, 0)) = some (Obj.cells cur e (0, 0)) := hgg.symm.trans hB
      injection this with this
      injection this
    subst hcc
    have hcn : n * size ≤ cap * size := Nat.mul_le_mul_right _ h1
    refine ⟨by rw [splice_length (by omega)]; exact hl, .inr ⟨g, cap, _, rfl, hb, hB.setRow _, h1, h2, ?_, ?_⟩⟩
    · simp; omega
    · subst h4
      simp only []
      have ho : (cur'.toList.take o).length = o := by simp; omega
      have e1 : (cur'.toList.take (n * size)).take o = cur'.toList.take o := by rw [List.take_take, Nat.min_eq_left (by omega)]
      have e2 : (cur'.toList.take (n * size)).drop (o + vs.length) = (cur'.toList.drop (o + vs.length)).take (n * size - (o + vs.length)) := by rw [List.drop_take]
      rw [e1, e2]
      have hl1 : (cur'.toList.take o ++ vs).length = o + vs.length := by rw [List.length_append, ho]
      rw [show n * size = (cur'.toList.take o ++ vs).length + (n * size - (o + vs.length)) by rw [hl1]; omega, List.take_length_add_append, hl1]
      congr 2
      omega
end
end Go.Proofs.Ytpabbhhaagfoeaa
end
