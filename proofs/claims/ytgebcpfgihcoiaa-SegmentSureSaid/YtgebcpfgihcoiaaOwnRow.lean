/- Rows of structs of the call's own, whatever their size: an append, one cell set, a front, what is behind it cleared. No program. -/
import Derived.Test.YtgebcpfgihcoiaaMemX
import Derived.RangeFuncBox
namespace Go.Proofs.Ytgebcpfgihcoiaa
set_option maxRecDepth 100000
open Go.RowKit
set_option linter.unusedVariables false

section
variable {P : Program}
theorem run_append_rows (w : World) (base : Nat) (t ty e : TypeId) (i : TypeInfo) (z : Value) (size bytes : Nat) (ht : P.underlying t = some (.slice e)) (hi : P.info? e = some i) (hz : i.zero = some z)
    (hsize : i.size = size) (hby : i.bytes = bytes) (hzs : z.cells.size = size) (hpos : 0 < size)
    (v : Value) (n : Nat) (xs : List Value) (hown : w.ownsRow base e size v n xs)
    (a : Addr) (m c : Nat) (news : List Value) (hm : news.length = m * size) (hm0 : 0 < m) (hc : ∀ j u, news[j]? = some u → w.cell? (a.add j) = some u) (h1 : ∀ u ∈ news, u.oneCell' = true)
    (hbytes : (n + m) * bytes ≤ 140737488355328) (h63 : n + m ≤ maxLen) (hbase : base ≤ w.heap.size) :
    ∃ g cap w', (Builtin.append_ #[t, t] ty #[v, .slice (some a) m c]).run P w = .ok (.slice (some ⟨g, 0, none⟩) (n + m) cap) w' ∧ w'.ownsRow base e size (.slice (some ⟨g, 0, none⟩) (n + m) cap) (n + m) (xs ++ news) ∧ w.grownBy w' v.ownBlock ∧
      (v.ownBlock = some g ∨ w.heap.size ≤ g) := by
  obtain ⟨v', w', hr, h2, h3, h4⟩ := run_append_own (P := P) w base t ty e i z size bytes ht hi hz hsize hby hzs hpos v n xs hown a m c news hm hc h1 h63 hbytes hbase
  obtain ⟨m1, rfl⟩ : ∃ m1, m = m1 + 1 := ⟨m - 1, by omega⟩
  obtain ⟨g1, cap1, hv1⟩ := ownsRow_succ (k := n + m1) h2
  rw [Nat.add_assoc] at hv1
  subst hv1
  refine ⟨g1, cap1, w', hr, h2, h3, ?_⟩
  rcases hown.2 with ⟨rfl, rfl⟩ | ⟨g, cap, cur, rfl, hbg, hg, hnc, hcm, hcs, htake⟩
  · have hr2 := run_append_nil (P := P) w t ty e i z ht hi hz a (m1 + 1) c news (by rw [hsize]; exact hm) hc (by omega) (by have := h63; simp only [maxLen] at this; omega) (by have hb := hbytes; simp only [Nat.zero_add] at hb; subst hby; omega)
    rw [hr2] at hr
    injection hr with e1 e2
    injection e1 with e1
    injection e1 with e1
    injection e1 with e1
    exact .inr (by omega)
  · by_cases hle : n + (m1 + 1) ≤ cap
    · have hfit : n * i.size + news.length ≤ cur.size := by
        rw [hsize, hm, hcs, ← Nat.add_mul]
        exact Nat.mul_le_mul_right _ hle
      have hr2 := run_append_room (P := P) w t ty e i ht hi g n cap cur hg a (m1 + 1) c news (by rw [hsize]; exact hm) hc h1 hle hfit
      rw [hr2] at hr
      injection hr with e1 e2
      injection e1 with e1
      injection e1 with e1
      injection e1 with e1
      exact .inl (by simp [Value.ownBlock, e1])
    · obtain ⟨v2, w2, hr2, h5, h6⟩ := run_append_arg_grows (P := P) w t ty e i z size bytes ht hi hz hsize hby hzs hpos ⟨g, 0, none⟩ n cap xs hown.1 (hown.cells rfl) a (m1 + 1) c news hm hc (by omega) h63 hbytes
      rw [hr2] at hr
      injection hr with e1 e2
      subst e1; subst e2
      exact .inr (h5.lt g1 (by simp [Value.ownBlock])).1
/-- The same as one step of a region that draws its order. -/
theorem step_append_rows (w : World) {ops : Array Oper} {o : Oper} {a : Act} {K : Act → World → Prop} {Q : Exit → Act → World → Prop} {E : Prop}
    (hg : o.guard = none) (s x : Operand) (t : TypeId) (hop : o.op = Op.call { callee := Callee.builtin Builtin.append, args := #[s, x], argTypes := #[t, t] })
    (base : Nat) (e : TypeId) (i : TypeInfo) (z : Value) (size bytes : Nat) (ht : P.underlying t = some (.slice e)) (hi : P.info? e = some i) (hz : i.zero = some z)
    (hsize : i.size = size) (hby : i.bytes = bytes) (hzs : z.cells.size = size) (hpos : 0 < size)
    (v : Value) (n : Nat) (xs : List Value) (hs : a.eval s = v) (hown : w.ownsRow base e size v n xs)
    (ad : Addr) (m c : Nat) (news : List Value) (hx : a.eval x = .slice (some ad) m c) (hm : news.length = m * size) (hm0 : 0 < m) (hc : ∀ j u, news[j]? = some u → w.cell? (ad.add j) = some u) (h1 : ∀ u ∈ news, u.oneCell' = true)
    (hbytes : (n + m) * bytes ≤ 140737488355328) (h63 : n + m ≤ maxLen) (hbase : base ≤ w.heap.size)
    (hK : ∀ g cap w', w'.ownsRow base e size (.slice (some ⟨g, 0, none⟩) (n + m) cap) (n + m) (xs ++ news) → w.grownBy w' v.ownBlock → (v.ownBlock = some g ∨ w.heap.size ≤ g) → K (a.put o.dst (.slice (some ⟨g, 0, none⟩) (n + m) cap)) w') :
    if Region.wanted o (yielded ops a.tmps) = true then Oper.wp P o a w K Q else E := by
  have hw : Region.wanted o (yielded ops a.tmps) = true := by simp [Region.wanted, hg]
  rw [if_pos hw]
  obtain ⟨g, cap, w', hrun, h2, h3, h4⟩ := run_append_rows (P := P) w base t o.type e i z size bytes ht hi hz hsize hby hzs hpos v n xs hown ad m c news hm hm0 hc h1 hbytes h63 hbase
  unfold Oper.wp
  simp [execOp, hop, resolve, invoke, builtin, hs, hx, hrun, Result.andThen]
  exact hK _ _ _ h2 h3 h4

/-- An own row's place, its cells. -/
theorem own_place {w : World} {base n size : Nat} {e : TypeId} {v : Value} {xs : List Value} (h : w.ownsRow base e size v n xs) (hn : 0 < n) :
    ∃ g cap cur, v = .slice (some ⟨g, 0, none⟩) n cap ∧ base ≤ g ∧ g < w.heap.size ∧ Blk w g e cur ∧ n ≤ cap ∧ cap ≤ maxLen ∧ cur.size = cap * size ∧ cur.toList.take (n * size) = xs ∧ (∀ j u, xs[j]? = some u → w.cell? ⟨g, j, none⟩ = some u) ∧ (∀ j, w.frozen? ⟨g, j, none⟩ = false) := by
  have hcells := fun g hg j u hu => h.cells (g := g) hg j u hu
  rcases h.2 with ⟨rfl, rfl⟩ | ⟨g, cap, cur, rfl, hb, hgg, h1, h2, h3, h4⟩
  · omega
  · have hB : Blk w g e cur := hgg
    refine ⟨g, cap, cur, rfl, hb, hB.lt, hB, h1, h2, h3, h4, fun j u hu => ?_, fun j => hB.frozen j⟩
    have := hcells g rfl j u hu
    rwa [Addr.add_lit, Nat.zero_add] at this
/-- One cell of it is another one. -/
theorem own_cell_set {w : World} {base n size g cap : Nat} {e : TypeId} {xs : List Value} (h : w.ownsRow base e size (.slice (some ⟨g, 0, none⟩) n cap) n xs) (j : Nat) (u : Value) :
    (w.setCell ⟨g, j, none⟩ u).ownsRow base e size (.slice (some ⟨g, 0, none⟩) n cap) n (xs.set j u) := by
  have hl := h.1
  rcases h.2 with ⟨hv, _⟩ | ⟨g', cap', cur, hv, hb, hgg, h1, h2, h3, h4⟩
  · cases hv
  · injection hv with e1 e2 e3
    injection e1 with e1
    injection e1 with e1
    subst e1; subst e3
    have hB : Blk w g e cur := hgg
    refine ⟨by simpa using hl, .inr ⟨g, cap, cur.setIfInBounds j u, rfl, hb, hB.set_ j u, h1, h2, by simpa using h3, ?_⟩⟩
    simp only [Array.toList_setIfInBounds, List.take_set, h4]
/-- Its front. -/
theorem own_front {w : World} {base n size g cap : Nat} {e : TypeId} {xs : List Value} (h : w.ownsRow base e size (.slice (some ⟨g, 0, none⟩) n cap) n xs) {k : Nat} (hk : k ≤ n) :
    w.ownsRow base e size (.slice (some ⟨g, 0, none⟩) k cap) k (xs.take (k * size)) := by
  have hl := h.1
  have hks : k * size ≤ n * size := Nat.mul_le_mul_right _ hk
  rcases h.2 with ⟨hv, _⟩ | ⟨g', cap', cur, hv, hb, hgg, h1, h2, h3, h4⟩
  · cases hv
  · injection hv with e1 e2 e3
    injection e1 with e1
    injection e1 with e1
    subst e1; subst e3
    refine ⟨by simp; omega, .inr ⟨g, cap, cur, rfl, hb, hgg, by omega, h2, h3, ?_⟩⟩
    rw [← h4, List.take_take, Nat.min_eq_left hks]
/-- The row's cells from o on are others: what is ahead of them stays. -/
theorem own_beyond {w : World} {base n size g cap o : Nat} {e : TypeId} {xs : List Value} (h : w.ownsRow base e size (.slice (some ⟨g, 0, none⟩) n cap) n xs) (ho : n * size ≤ o) (zs : List Value) {cur : Array Value} (hB : Blk w g e cur) (hfit : o + zs.length ≤ cur.size) :
    (w.setRow g (cur.toList.take o ++ zs ++ cur.toList.drop (o + zs.length)).toArray).ownsRow base e size (.slice (some ⟨g, 0, none⟩) n cap) n xs := by
  have hl := h.1
  rcases h.2 with ⟨hv, _⟩ | ⟨g', cap', cur', hv, hb, hgg, h1, h2, h3, h4⟩
  · cases hv
  · injection hv with e1 e2 e3
    injection e1 with e1
    injection e1 with e1
    subst e1; subst e3
    have hcc : cur' = cur := by
      have : some (Obj.cells cur' e (0, 0)) = some (Obj.cells cur e (0, 0)) := hgg.symm.trans hB
      injection this with this
      injection this
    subst hcc
    refine ⟨hl, .inr ⟨g, cap, _, rfl, hb, hB.setRow _, h1, h2, ?_, ?_⟩⟩
    · simp; omega
    · have hlen : (cur'.toList.take o).length = o := by simp; omega
      simp only [List.append_assoc]
      rw [List.take_append_of_le_length (by omega), List.take_take, Nat.min_eq_left ho, h4]
/-- 'clear' of what stands behind a row's front. -/
theorem run_clear_rows {w : World} {base n size g cap : Nat} {e t ty : TypeId} {i : TypeInfo} {z : Value} {xs : List Value} (h : w.ownsRow base e size (.slice (some ⟨g, 0, none⟩) n cap) n xs)
    (ht : P.underlying t = some (.slice e)) (hi : P.info? e = some i) (hz : i.zero = some z) (hzs : z.cells.size = size) (hz1 : ∀ u ∈ z.cells.toList, u.oneCell' = true)
    {A : Option Addr} {m c o : Nat} (hA : 0 < m → A = some ⟨g, o, none⟩ ∧ n * size ≤ o ∧ o + m * size ≤ cap * size) :
    ∃ w', (Builtin.clear_ #[t] ty #[.slice A m c]).run P w = .ok (.tuple #[]) w' ∧ w'.ownsRow base e size (.slice (some ⟨g, 0, none⟩) n cap) n xs ∧ Mods (fun k => k = g) w w' := by
  by_cases hm : m = 0
  · subst hm
    refine ⟨w, ?_, h, Mods.refl _ _⟩
    cases A <;> simp [Builtin.clear_, run_underlying ht]
  · obtain ⟨rfl, ho, hfit⟩ := hA (by omega)
    obtain ⟨cur, hB, h3⟩ : ∃ cur, Blk w g e cur ∧ cur.size = cap * size := by
      rcases h.2 with ⟨hv, _⟩ | ⟨g', cap', cur', hv, hb, hgg, h1, h2, h3, h4⟩
      · cases hv
      · injection hv with e1 e2 e3
        injection e1 with e1
        injection e1 with e1
        subst e1; subst e3
        exact ⟨cur', hgg, h3⟩
    obtain ⟨zs, hzz⟩ : ∃ zs, (Builtin.zeroCells z.cells m).toList = zs := ⟨_, rfl⟩
    have hzl : zs.length = m * size := by rw [← hzz]; simp [Builtin.zeroCells, hzs]
    have hone : ∀ u ∈ zs, u.oneCell' = true := by
      intro u hu
      rw [← hzz] at hu
      simp [Builtin.zeroCells] at hu
      obtain ⟨k, hk, rfl⟩ := hu
      have hpos : 0 < z.cells.size := by
        rcases Nat.eq_zero_or_pos z.cells.size with h0 | h0
        · rw [h0] at hk; omega
        · exact h0
      have hlt := Nat.mod_lt k hpos
      rw [getElem!_pos z.cells (k % z.cells.size) hlt]
      exact hz1 _ (by simp)
    have hst := run_storeCells_at P g o e zs 0 cur w hB (by omega) hone
    simp only [Nat.add_zero] at hst
    obtain ⟨m1, rfl⟩ : ∃ m1, m = m1 + 1 := ⟨m - 1, by omega⟩
    refine ⟨w.setRow g (cur.toList.take o ++ zs ++ cur.toList.drop (o + zs.length)).toArray, ?_, own_beyond h ho zs hB (by omega), Mods.setRow (S := fun k => k = g) (Mods.refl _ _) (fun _ => rfl) _⟩
    have hzv : (zeroValue e).run P w = .ok z w := by simp [zeroValue, typeInfo, hi, hz]
    simp [Builtin.clear_, run_underlying ht, hzv, hzz, hst]
theorem wpList_clear_rows {ops : Array Oper} {rest : List Oper} {o : Oper} {a : Act} {w : World} {Q : Exit → Act → World → Prop} (hg : o.guard = none) (s : Operand) (t : TypeId)
    (hop : o.op = Op.call { callee := Callee.builtin Builtin.clear, args := #[s], argTypes := #[t] })
    (base n size g cap : Nat) (e : TypeId) (i : TypeInfo) (z : Value) (xs : List Value) (h : w.ownsRow base e size (.slice (some ⟨g, 0, none⟩) n cap) n xs)
    (ht : P.underlying t = some (.slice e)) (hi : P.info? e = some i) (hz : i.zero = some z) (hzs : z.cells.size = size) (hz1 : ∀ u ∈ z.cells.toList, u.oneCell' = true)
    (A : Option Addr) (m c p : Nat) (hs : a.eval s = .slice A m c) (hA : 0 < m → A = some ⟨g, p, none⟩ ∧ n * size ≤ p ∧ p + m * size ≤ cap * size)
    (hK : ∀ w', w'.ownsRow base e size (.slice (some ⟨g, 0, none⟩) n cap) n xs → Mods (fun k => k = g) w w' → wpList P ops Q rest (a.put o.dst (.tuple #[])) w') :
    wpList P ops Q (o :: rest) a w := by
  refine wpList_plain hg fun K hK' => ?_
  obtain ⟨w', hrun, h2, h3⟩ := run_clear_rows (P := P) (ty := o.type) h ht hi hz hzs hz1 (m := m) (c := c) hA
  unfold Oper.wp
  simp [execOp, hop, resolve, invoke, builtin, hs, hrun, Result.andThen]
  exact hK' _ _ (hK w' h2 h3)
/-- 'append(s[:k], s[k+1:]...)': one element of a row is taken out. -/
theorem run_append_out {w : World} {base n size g cap : Nat} {e t ty : TypeId} {i : TypeInfo} {xs : List Value} (h : w.ownsRow base e size (.slice (some ⟨g, 0, none⟩) n cap) n xs)
    (ht : P.underlying t = some (.slice e)) (hi : P.info? e = some i) (hsize : i.size = size) (h1 : ∀ u ∈ xs, u.oneCell' = true) {k : Nat} (hk : k < n)
    {A : Addr} {c : Nat} (hA : k + 1 < n → A = ⟨g, (k + 1) * size, none⟩) :
    ∃ w', (Builtin.append_ #[t, t] ty #[.slice (some ⟨g, 0, none⟩) k cap, .slice (some A) (n - (k + 1)) c]).run P w = .ok (.slice (some ⟨g, 0, none⟩) (n - 1) cap) w' ∧
      w'.ownsRow base e size (.slice (some ⟨g, 0, none⟩) (n - 1) cap) (n - 1) (xs.take (k * size) ++ xs.drop ((k + 1) * size)) ∧ Mods (fun k => k = g) w w' := by
  obtain ⟨g', cap', cur, hv, hb, hgl, hB, hnc, hcm, hcs, htk, hcl, -⟩ := own_place h (by omega)
  injection hv with e1 e2 e3
  injection e1 with e1
  injection e1 with e1
  subst e1; subst e3
  have hl := h.1
  have hl1 : (xs.drop ((k + 1) * size)).length = (n - (k + 1)) * size := by simp; rw [hl, Nat.sub_mul]
  have hle1 : k * size + (n - (k + 1)) * size ≤ cap * size := by rw [← Nat.add_mul]; exact Nat.mul_le_mul_right _ (by omega)
  have hr := run_append_room (P := P) w t ty e i ht hi g k cap cur hB A (n - (k + 1)) c (xs.drop ((k + 1) * size)) (by rw [hsize]; exact hl1) (fun j u hu => by
    by_cases hlt : k + 1 < n
    · rw [hA hlt, Addr.add_lit]
      rw [List.getElem?_drop] at hu
      exact hcl _ _ hu
    · have : n - (k + 1) = 0 := by omega
      rw [this, Nat.zero_mul] at hl1
      rw [List.eq_nil_of_length_eq_zero hl1] at hu
      simp at hu) (fun u hu => h1 u (List.mem_of_mem_drop hu)) (by omega) (by rw [hsize, hl1, hcs]; exact hle1)
  rw [hsize, show k + (n - (k + 1)) = n - 1 by omega] at hr
  have hks : k * size ≤ n * size := Nat.mul_le_mul_right _ (by omega)
  have hcn : n * size ≤ cap * size := Nat.mul_le_mul_right _ hnc
  have hfront : (cur.toList.take (k * size)) = xs.take (k * size) := by rw [← htk, List.take_take, Nat.min_eq_left hks]
  have hfl : (xs.take (k * size)).length = k * size := by simp; omega
  have hn1 : (n - 1) * size = k * size + (n - (k + 1)) * size := by rw [← Nat.add_mul]; congr 1; omega
  refine ⟨_, hr, ⟨?_, .inr ⟨g, cap, _, rfl, hb, hB.setRow _, by omega, hcm, ?_, ?_⟩⟩, Mods.setRow (S := fun k => k = g) (Mods.refl _ _) (fun _ => rfl) _⟩
  · rw [List.length_append, hfl, hl1, hn1]
  · simp only [List.size_toArray, List.length_append, List.length_drop, Array.length_toList]
    rw [hfront, hfl, show xs.length - (k + 1) * size = (n - (k + 1)) * size by rw [← hl1]; simp, hcs]
    omega
  · rw [hfront]
    simp only []
    have htot : (xs.take (k * size) ++ xs.drop ((k + 1) * size)).length = (n - 1) * size := by rw [List.length_append, hfl, hl1, hn1]
    rw [List.take_append_of_le_length (Nat.le_of_eq htot.symm), List.take_of_length_le (Nat.le_of_eq htot)]
theorem step_append_out (w : World) {ops : Array Oper} {o : Oper} {a : Act} {K : Act → World → Prop} {Q : Exit → Act → World → Prop} {E : Prop}
    (hg : o.guard = none) (s x : Operand) (t : TypeId) (hop : o.op = Op.call { callee := Callee.builtin Builtin.append, args := #[s, x], argTypes := #[t, t] })
    (base n size g cap : Nat) (e : TypeId) (i : TypeInfo) (xs : List Value) (h : w.ownsRow base e size (.slice (some ⟨g, 0, none⟩) n cap) n xs)
    (ht : P.underlying t = some (.slice e)) (hi : P.info? e = some i) (hsize : i.size = size) (h1 : ∀ u ∈ xs, u.oneCell' = true) (k : Nat) (hk : k < n)
    (A : Addr) (c : Nat) (hs : a.eval s = .slice (some ⟨g, 0, none⟩) k cap) (hx : a.eval x = .slice (some A) (n - (k + 1)) c) (hA : k + 1 < n → A = ⟨g, (k + 1) * size, none⟩)
    (hK : ∀ w', w'.ownsRow base e size (.slice (some ⟨g, 0, none⟩) (n - 1) cap) (n - 1) (xs.take (k * size) ++ xs.drop ((k + 1) * size)) → Mods (fun k => k = g) w w' → K (a.put o.dst (.slice (some ⟨g, 0, none⟩) (n - 1) cap)) w') :
    if Region.wanted o (yielded ops a.tmps) = true then Oper.wp P o a w K Q else E := by
  have hw : Region.wanted o (yielded ops a.tmps) = true := by simp [Region.wanted, hg]
  rw [if_pos hw]
  obtain ⟨w', hrun, h2, h3⟩ := run_append_out (P := P) (ty := o.type) (c := c) h ht hi hsize h1 hk hA
  unfold Oper.wp
  simp [execOp, hop, resolve, invoke, builtin, hs, hx, hrun, Result.andThen]
  exact hK _ h2 h3
end
end Go.Proofs.Ytgebcpfgihcoiaa
