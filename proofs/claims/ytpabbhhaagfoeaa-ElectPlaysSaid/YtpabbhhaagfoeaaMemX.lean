/- Texts laid as one: Mem2, Mem3, Mem4. -/
import Derived.Test.YtpabbhhaagfoeaaBaseM

import Derived.TacticsIn
import Derived.OwnWalkIn
import Derived.RegionTactic
import Derived.Orders

section
/- Plain laws on memory more: an append onto a row of the call's own leaves what the row was. No program. -/
namespace Go.Proofs.Ytpabbhhaagfoeaa
set_option maxRecDepth 100000
open Go.RowKit
section
variable {P : Program}
theorem run_append_sl2 (w : World) (base : Nat) (t ty e : TypeId) (i : TypeInfo) (z : Value) (bytes : Nat) (ht : P.underlying t = some (.slice e)) (hi : P.info? e = some i) (hz : i.zero = some z)
    (hsize : i.size = 1) (hby : i.bytes = bytes) (hzs : z.cells.size = 1)
    (v : Value) (n : Nat) (xs : List Value) (hown : w.ownsRow base e 1 v n xs)
    (A : Option Addr) (m c : Nat) (news : List Value) (hm : news.length = m) (hsl : Sl w A c news) (h1 : ∀ u ∈ news, u.oneCell' = true)
    (hbytes : (n + m) * bytes ≤ 140737488355328) (h63 : n + m ≤ maxLen) (hbase : base ≤ w.heap.size) :
    ∃ v' w', (Builtin.append_ #[t, t] ty #[v, .slice A m c]).run P w = .ok v' w' ∧ w'.ownsRow base e 1 v' (n + m) (xs ++ news) ∧ w.grownBy w' v.ownBlock ∧
      (∀ k, v'.ownBlock = some k → v.ownBlock = some k ∨ w.heap.size ≤ k) ∧ (∀ A0 n0 c0, v = .slice A0 n0 c0 → Sl w' A0 c0 xs) := by
  have old0 : ∀ w', Mods Nil w w' → ∀ A0 n0 c0, v = .slice A0 n0 c0 → Sl w' A0 c0 xs := by
    intro w' hm A0 n0 c0 hv
    obtain ⟨A1, c1, hv1, _, hs1, _⟩ := own_slice hown
    rw [hv1] at hv
    injection hv with e1 e2 e3
    subst e1; subst e3
    exact hs1.mods hm (fun _ _ h => h)
  subst hm
  cases A with
  | none =>
    obtain ⟨rfl, rfl⟩ := hsl.of_nil
    have hrun := run_append_owned_none (P := P) (w := w) base t ty e i 1 ht hi v n xs hown
    exact ⟨v, w, hrun, by simpa using hown, ⟨rfl, rfl, rfl, Nat.le_refl _, fun _ _ _ => rfl⟩, fun k hk => .inl hk, old0 _ (Mods.refl _ _)⟩
  | some a =>
    have hc : ∀ j u, news[j]? = some u → w.cell? (a.add j) = some u := by
      intro j u hu
      rcases hsl.has with rfl | ⟨b, off, hA, hcc⟩
      · simp at hu
      · injection hA with hA
        subst hA
        rw [Addr.add_lit]
        exact hcc j u hu
    obtain ⟨v', w', hr, h2, h3, h4⟩ := run_append_own (P := P) w base t ty e i z 1 bytes ht hi hz hsize hby hzs (by omega) v n xs hown a news.length c news (by simp) hc h1 h63 hbytes hbase
    by_cases hroom : ∃ g cap cur, v = .slice (some ⟨g, 0, none⟩) n cap ∧ w.heap[g]? = some (.cells cur e (0, 0)) ∧ n + news.length ≤ cap ∧ cur.size = cap
    · obtain ⟨g, cap, cur, rfl, hg, hle, hcs⟩ := hroom
      have hr2 := run_append_room (P := P) w t ty e i ht hi g n cap cur hg a news.length c news (by rw [hsize]; omega) hc h1 hle (by rw [hsize]; omega)
      rw [hr2] at hr
      injection hr with e1 e2
      subst e1; subst e2
      refine ⟨_, _, hr2, h2, h3, fun k hk => .inl hk, fun A0 n0 c0 hv => ?_⟩
      injection hv with e1 e2 e3
      subst e1; subst e3
      obtain ⟨A1, c1, hv1, _, hs1, _⟩ := own_slice h2
      injection hv1 with e4 e5 e6
      subst e4; subst e6
      have := hs1.take n
      have hxl : xs.length = n := by simpa using hown.1
      rw [List.take_append_of_le_length (show n ≤ xs.length by omega), List.take_of_length_le (show xs.length ≤ n by omega)] at this
      exact this
    · rcases hown.2 with ⟨rfl, rfl⟩ | ⟨g, cap, cur, rfl, hbg, hg, hnc, hcm, hcs, htake⟩
      · obtain rfl : xs = [] := List.eq_nil_of_length_eq_zero (by simpa using hown.1)
        by_cases hm0 : news.length = 0
        · have : v' = .slice none 0 0 := (h4.2 ⟨rfl, hm0⟩)
          subst this
          exact ⟨_, _, hr, h2, h3, (fun k hk => by simp [Value.ownBlock] at hk), fun A0 n0 c0 hv => by injection hv with e1 e2 e3; subst e1; subst e3; exact Sl.none_ _⟩
        · have hr2 := run_append_nil (P := P) w t ty e i z ht hi hz a news.length c news (by rw [hsize]; simp) hc (by omega) (by have := h63; simp only [maxLen] at this; omega) (by have hb := hbytes; simp only [Nat.zero_add] at hb; subst hby; omega)
          rw [hr2] at hr
          injection hr with e1 e2
          subst e1; subst e2
          refine ⟨_, _, hr2, h2, h3, (fun k hk => .inr ?_), fun A0 n0 c0 hv => by injection hv with e1 e2 e3; subst e1; subst e3; exact Sl.none_ _⟩
          simp [Value.ownBlock] at hk
          omega
      · have hgrow : cap < n + news.length := by
          apply Nat.lt_of_not_le
          intro hle
          exact hroom ⟨g, cap, cur, rfl, hg, hle, by omega⟩
        obtain ⟨v2, w2, hr2, h5, h6⟩ := run_append_arg_grows (P := P) w t ty e i z 1 bytes ht hi hz hsize hby hzs (by omega) ⟨g, 0, none⟩ n cap xs (by simpa using hown.1) (hown.cells rfl) a news.length c news (by simp) hc hgrow h63 hbytes
        rw [hr2] at hr
        injection hr with e1 e2
        subst e1; subst e2
        exact ⟨_, _, hr2, h2, h3, (fun k hk => .inr ((h5.lt k hk).1)), old0 _ ((Mods.refl Nil w).grown h6 (fun k hk => by cases hk))⟩

theorem wpList_append_sl2 (w : World) {ops : Array Oper} {rest : List Oper} {o : Oper} {a : Act} {Q : Exit → Act → World → Prop}
    (hg : o.guard = none) (s x : Operand) (t : TypeId) (hop : o.op = Op.call { callee := Callee.builtin Builtin.append, args := #[s, x], argTypes := #[t, t] })
    (base : Nat) (e : TypeId) (i : TypeInfo) (z : Value) (bytes : Nat) (ht : P.underlying t = some (.slice e)) (hi : P.info? e = some i) (hz : i.zero = some z)
    (hsize : i.size = 1) (hby : i.bytes = bytes) (hzs : z.cells.size = 1)
    (v : Value) (n : Nat) (xs : List Value) (hs : a.eval s = v) (hown : w.ownsRow base e 1 v n xs)
    (A : Option Addr) (m c : Nat) (news : List Value) (hx : a.eval x = .slice A m c) (hm : news.length = m) (hsl : Sl w A c news) (h1 : ∀ u ∈ news, u.oneCell' = true)
    (hbytes : (n + m) * bytes ≤ 140737488355328) (h63 : n + m ≤ maxLen) (hbase : base ≤ w.heap.size)
    (hK : ∀ v' w', w'.ownsRow base e 1 v' (n + m) (xs ++ news) → w.grownBy w' v.ownBlock → (∀ k, v'.ownBlock = some k → v.ownBlock = some k ∨ w.heap.size ≤ k) → (∀ A0 n0 c0, v = .slice A0 n0 c0 → Sl w' A0 c0 xs) → wpList P ops Q rest (a.put o.dst v') w') :
    wpList P ops Q (o :: rest) a w := by
  refine wpList_plain hg fun K hK' => ?_
  obtain ⟨v', w', hrun, h2, h3, h4, h5⟩ := run_append_sl2 (P := P) w base t o.type e i z bytes ht hi hz hsize hby hzs v n xs hown A m c news hm hsl h1 hbytes h63 hbase
  unfold Oper.wp
  simp [execOp, hop, resolve, invoke, builtin, hs, hx, hrun, Result.andThen]
  exact hK' _ _ (hK v' w' h2 h3 h4 h5)

end
end Go.Proofs.Ytpabbhhaagfoeaa
end

section
/- Whole structs are loaded and stored: laws for both walks. No program. -/
namespace Go.Proofs.Ytpabbhhaagfoeaa
set_option maxRecDepth 100000
open Go.RowKit
set_option linter.unusedVariables false

section
variable {P : Program}
theorem run_storeVar_blk {w : World} {g : Nat} {t ty : TypeId} {old new : Array Value} (h : Blk w g t old) (hs : new.size = old.size) (h1 : new.all (·.oneCell') = true) (hi : (P.info? ty).map (·.size) = some new.size) (hc : (Value.agg new).cells = new) :
    (storeVar ty ⟨g, 0, none⟩ (.agg new)).run P w = .ok () (w.setRow g new) := by
  cases hq : P.info? ty with
  | none => simp [hq] at hi
  | some i =>
    have hsz : i.size = new.size := by simpa [hq] using hi
    have hst := run_storeCells_blk (P := P) h hs h1
    simp [storeVar, Sem.run_bind, sizeOf, typeInfo, hq, hsz, hc, hst]

theorem wp_store_row {o : Oper} {a : Act} {w : World} {K : Act → World → Prop} {Q : Exit → Act → World → Prop} (ty : TypeId) (x y : Operand) (ho : o.op = .store ty x y) (hd : o.dst = none)
    (g : Nat) (hx : a.eval x = .pointer (some ⟨g, 0, none⟩)) (t : TypeId) (old new : Array Value) (hy : a.eval y = .agg new) (h : Blk w g t old) (hs : new.size = old.size) (h1 : new.all (·.oneCell') = true) (hi : (P.info? ty).map (·.size) = some new.size) (hc : (Value.agg new).cells = new)
    (hk : K a (w.setRow g new)) : o.wp P a w K Q := by
  have hst := run_storeVar_blk (P := P) h hs h1 hi hc
  unfold Oper.wp execOp
  simp only [ho, hx, hy, Instr.storeAt, Instr.sureAddr, Sem.run_bind, Sem.run_pure, Result.andThen_ok, hst]
  simpa [Oper.upon, hd, Act.put] using hk
theorem wpList_store_row {ops : Array Oper} {rest : List Oper} {o : Oper} {a : Act} {w : World} {Q : Exit → Act → World → Prop} (hgd : o.guard = none) (ty : TypeId) (x y : Operand) (ho : o.op = .store ty x y) (hd : o.dst = none)
    (g : Nat) (hx : a.eval x = .pointer (some ⟨g, 0, none⟩)) (t : TypeId) (old new : Array Value) (hy : a.eval y = .agg new) (h : Blk w g t old) (hs : new.size = old.size) (h1 : new.all (·.oneCell') = true) (hi : (P.info? ty).map (·.size) = some new.size) (hc : (Value.agg new).cells = new)
    (hk : wpList P ops Q rest a (w.setRow g new)) : wpList P ops Q (o :: rest) a w :=
  wpList_plain hgd fun _ hK => wp_store_row ty x y ho hd g hx t old new hy h hs h1 hi hc (hK _ _ hk)
theorem wpListIn_store_row {F : Fence} {n : Nat} {ops : Array Oper} {rest : List Oper} {o : Oper} {a : Act} {w : World} {Q : Exit → Act → World → Prop} (hgd : o.guard = none) (ty : TypeId) (x y : Operand) (ho : o.op = .store ty x y) (hd : o.dst = none)
    (g : Nat) (hx : a.eval x = .pointer (some ⟨g, 0, none⟩)) (t : TypeId) (old new : Array Value) (hy : a.eval y = .agg new) (h : Blk w g t old) (hs : new.size = old.size) (h1 : new.all (·.oneCell') = true) (hi : (P.info? ty).map (·.size) = some new.size) (hc : (Value.agg new).cells = new)
    (hk : wpListIn F n P ops Q rest a (w.setRow g new)) : wpListIn F n P ops Q (o :: rest) a w := by
  have hst := run_storeVar_blk (P := P) h hs h1 hi hc
  refine wpListIn_plain hgd fun K hK' => ?_
  unfold Oper.wpIn
  refine ⟨?_, ?_⟩
  · simp [Oper.about, ho]
  · rw [Oper.semAt_plain F _ _ (by rw [ho]; intro c hc'; cases hc')]
    simp only [execOp, ho, hx, hy, Instr.storeAt, Instr.sureAddr, Sem.run_bind, Sem.run_pure, Result.andThen_ok, hst]
    have := hK' _ _ hk
    simpa [Oper.uponIn, hd, Act.put] using this
/-- The same, the new world told by what it holds alone. -/
theorem wpList_store_mk {ops : Array Oper} {rest : List Oper} {o : Oper} {a : Act} {w : World} {Q : Exit → Act → World → Prop} (hgd : o.guard = none) (ty : TypeId) (x y : Operand) (ho : o.op = .store ty x y) (hd : o.dst = none)
    (g : Nat) (hx : a.eval x = .pointer (some ⟨g, 0, none⟩)) (t : TypeId) (old new : Array Value) (hy : a.eval y = .agg new) (h : Blk w g t old) (hs : new.size = old.size) (h1 : new.all (·.oneCell') = true) (hi : (P.info? ty).map (·.size) = some new.size) (hc : (Value.agg new).cells = new)
    (hk : ∀ W, Blk W g t new → Mods (fun i => i = g) w W → wpList P ops Q rest a W) : wpList P ops Q (o :: rest) a w :=
  wpList_store_row hgd ty x y ho hd g hx t old new hy h hs h1 hi hc (hk _ (h.setRow new) (Mods.setRow (S := fun i => i = g) (Mods.refl _ _) (fun _ => rfl) _))
theorem wpListIn_load_row {F : Fence} {n : Nat} {ops : Array Oper} {rest : List Oper} {o : Oper} {a : Act} {w : World} {Q : Exit → Act → World → Prop} (hgd : o.guard = none) (ty : TypeId) (x : Operand) (ho : o.op = .load ty x)
    (g : Nat) (hx : a.eval x = .pointer (some ⟨g, 0, none⟩)) (t : TypeId) (cs : Array Value) (fr : Nat × Nat) (d : TypeDesc) (hg : w.heap[g]? = some (.cells cs t fr))
    (hu : P.underlying ty = some d) (hd : (match d with | .struct _ | .array _ _ => true | _ => false) = true) (hi : (P.info? ty).map (·.size) = some cs.size)
    (h : wpListIn F n P ops Q rest (a.put o.dst (.agg cs)) w) : wpListIn F n P ops Q (o :: rest) a w := by
  have hl := run_loadVar_row (P := P) w g t ty cs fr d hg hu hd hi
  refine wpListIn_plain hgd fun K hK' => ?_
  unfold Oper.wpIn
  refine ⟨?_, ?_⟩
  · simp [Oper.about, ho]
  · rw [Oper.semAt_plain F _ _ (by rw [ho]; intro c hc'; cases hc')]
    simp only [execOp, ho, hx, Instr.loadAt, Instr.sureAddr, Sem.run_bind, Sem.run_pure, Result.andThen_ok, hl]
    exact hK' _ _ h
end
end Go.Proofs.Ytpabbhhaagfoeaa
end

section
/- 'return m, r' of two structs, in whatever order Go takes; results that are structs. No program. -/
namespace Go.Proofs.Ytpabbhhaagfoeaa
set_option maxRecDepth 100000
open Go.RowKit
set_option linter.unusedVariables false

section
variable {P : Program}
theorem eval_put_ne {a : Act} {d t : Tmp} {v : Value} (h : d ≠ t) : (a.put (some d) v).eval (.tmp t) = a.eval (.tmp t) :=
  Act.eval_put (fun d' hd e => by injection hd with hd; injection e with e; exact h (hd.trans e.symm))
theorem eval_put_same {a : Act} {d : Tmp} {v : Value} (h : d < a.tmps.size) : (a.put (some d) v).eval (.tmp d) = v := by
  simp [Act.eval, Act.put, h]
theorem put_size {a : Act} {d : Option Tmp} {v : Value} : (a.put d v).tmps.size = a.tmps.size := by
  cases d <;> simp [Act.put]

theorem wp_ret_two (hm : P.follows .mixedOrders = true) {id : Nat} {T1 T2 : TypeId} {d0 d1 p1 p2 r1 r2 : Tmp} {s0 s1 s2 s3 : String} {x0 x1 x2 x3 : TypeId} {Q : Exit → Act → World → Prop} {a : Act} {w : World}
    (n1 : d0 ≠ p2) (n2 : d0 ≠ r1) (n3 : d0 ≠ r2) (n4 : d0 ≠ d1) (n5 : d1 ≠ p1) (n6 : d1 ≠ r1) (n7 : d1 ≠ r2) (z0 : d0 < a.tmps.size) (z1 : d1 < a.tmps.size)
    {g1 g2 g3 g4 : Nat} {t1 t2 t3 t4 : TypeId} {cs1 cs2 old3 old4 : Array Value}
    (e1 : a.eval (.tmp p1) = .pointer (some ⟨g1, 0, none⟩)) (e2 : a.eval (.tmp p2) = .pointer (some ⟨g2, 0, none⟩)) (e3 : a.eval (.tmp r1) = .pointer (some ⟨g3, 0, none⟩)) (e4 : a.eval (.tmp r2) = .pointer (some ⟨g4, 0, none⟩))
    (b1 : Blk w g1 t1 cs1) (b2 : Blk w g2 t2 cs2) (b3 : Blk w g3 t3 old3) (b4 : Blk w g4 t4 old4) (y1 : g2 ≠ g3) (y2 : g4 ≠ g3)
    {D1 D2 : TypeDesc} (u1 : P.underlying T1 = some D1) (q1 : (match D1 with | .struct _ | .array _ _ => true | _ => false) = true) (u2 : P.underlying T2 = some D2) (q2 : (match D2 with | .struct _ | .array _ _ => true | _ => false) = true)
    (i1 : (P.info? T1).map (·.size) = some cs1.size) (i2 : (P.info? T2).map (·.size) = some cs2.size) (o1 : cs1.all (·.oneCell') = true) (o2 : cs2.all (·.oneCell') = true) (c1 : (Value.agg cs1).cells = cs1) (c2 : (Value.agg cs2).cells = cs2)
    (k3 : cs1.size = old3.size) (k4 : cs2.size = old4.size)
    (hQ : ∀ a' W, a'.eval (.tmp r1) = .pointer (some ⟨g3, 0, none⟩) → a'.eval (.tmp r2) = .pointer (some ⟨g4, 0, none⟩) → a'.defers = a.defers → Blk W g3 t3 cs1 → Blk W g4 t4 cs2 → Mods (fun i => i = g3 ∨ i = g4) w W → Q .normal a' W) :
    (Code.region id #[{ dst := some d0, op := .load T1 (.tmp p1), type := x0, pos := s0, after := #[], guard := none },
      { dst := some d1, op := .load T2 (.tmp p2), type := x1, pos := s1, after := #[{ on := 2, ground := .gcOnly .lateStores }], guard := none },
      { dst := none, op := .store T1 (.tmp r1) (.tmp d0), type := x2, pos := s2, after := #[{ on := 0, ground := .data }, { on := 0, ground := .phase }, { on := 1, ground := .textOnly .lateStores }], guard := none },
      { dst := none, op := .store T2 (.tmp r2) (.tmp d1), type := x3, pos := s3, after := #[{ on := 1, ground := .data }, { on := 2, ground := .chain }, { on := 0, ground := .phase }, { on := 1, ground := .phase }, { on := 2, ground := .phase }], guard := none }] true).wp P Q a w := by
  have L1 : ∀ (a : Act) (w : World) (K : Act → World → Prop) (ops : Array Oper), a.eval (.tmp p1) = .pointer (some ⟨g1, 0, none⟩) → Blk w g1 t1 cs1 → K (a.put (some d0) (.agg cs1)) w →
      (if Region.wanted ({ dst := some d0, op := .load T1 (.tmp p1), type := x0, pos := s0, after := #[], guard := none } : Oper) (yielded ops a.tmps) = true then Oper.wp P { dst := some d0, op := .load T1 (.tmp p1), type := x0, pos := s0, after := #[], guard := none } a w K Q else K (a.put (some d0) undef) w) := fun a w K ops he hb hk => by
    rw [if_pos (by simp [Region.wanted])]
    exact wp_load_row T1 (.tmp p1) rfl g1 he t1 cs1 (0, 0) D1 hb u1 q1 i1 hk
  have L2 : ∀ (a : Act) (w : World) (K : Act → World → Prop) (ops : Array Oper), a.eval (.tmp p2) = .pointer (some ⟨g2, 0, none⟩) → Blk w g2 t2 cs2 → K (a.put (some d1) (.agg cs2)) w →
      (if Region.wanted ({ dst := some d1, op := .load T2 (.tmp p2), type := x1, pos := s1, after := #[{ on := 2, ground := .gcOnly .lateStores }], guard := none } : Oper) (yielded ops a.tmps) = true then Oper.wp P { dst := some d1, op := .load T2 (.tmp p2), type := x1, pos := s1, after := #[{ on := 2, ground := .gcOnly .lateStores }], guard := none } a w K Q else K (a.put (some d1) undef) w) := fun a w K ops he hb hk => by
    rw [if_pos (by simp [Region.wanted])]
    exact wp_load_row T2 (.tmp p2) rfl g2 he t2 cs2 (0, 0) D2 hb u2 q2 i2 hk
  have S1 : ∀ (a : Act) (w : World) (K : Act → World → Prop) (ops : Array Oper), a.eval (.tmp r1) = .pointer (some ⟨g3, 0, none⟩) → a.eval (.tmp d0) = .agg cs1 → Blk w g3 t3 old3 → K a (w.setRow g3 cs1) →
      (if Region.wanted ({ dst := none, op := .store T1 (.tmp r1) (.tmp d0), type := x2, pos := s2, after := #[{ on := 0, ground := .data }, { on := 0, ground := .phase }, { on := 1, ground := .textOnly .lateStores }], guard := none } : Oper) (yielded ops a.tmps) = true then Oper.wp P { dst := none, op := .store T1 (.tmp r1) (.tmp d0), type := x2, pos := s2, after := #[{ on := 0, ground := .data }, { on := 0, ground := .phase }, { on := 1, ground := .textOnly .lateStores }], guard := none } a w K Q else K (a.put none undef) w) := fun a w K ops he hv hb hk => by
    rw [if_pos (by simp [Region.wanted])]
    exact wp_store_row T1 (.tmp r1) (.tmp d0) rfl rfl g3 he t3 old3 cs1 hv hb k3 o1 i1 c1 hk
  have S2 : ∀ (a : Act) (w : World) (K : Act → World → Prop) (ops : Array Oper), a.eval (.tmp r2) = .pointer (some ⟨g4, 0, none⟩) → a.eval (.tmp d1) = .agg cs2 → Blk w g4 t4 old4 → K a (w.setRow g4 cs2) →
      (if Region.wanted ({ dst := none, op := .store T2 (.tmp r2) (.tmp d1), type := x3, pos := s3, after := #[{ on := 1, ground := .data }, { on := 2, ground := .chain }, { on := 0, ground := .phase }, { on := 1, ground := .phase }, { on := 2, ground := .phase }], guard := none } : Oper) (yielded ops a.tmps) = true then Oper.wp P { dst := none, op := .store T2 (.tmp r2) (.tmp d1), type := x3, pos := s3, after := #[{ on := 1, ground := .data }, { on := 2, ground := .chain }, { on := 0, ground := .phase }, { on := 1, ground := .phase }, { on := 2, ground := .phase }], guard := none } a w K Q else K (a.put none undef) w) := fun a w K ops he hv hb hk => by
    rw [if_pos (by simp [Region.wanted])]
    exact wp_store_row T2 (.tmp r2) (.tmp d1) rfl rfl g4 he t4 old4 cs2 hv hb k4 o2 i2 c2 hk
  refine wp_region_any hm ?_
  have dr : ∀ {g t cs}, Blk w g t cs → Blk (w.drew) g t cs := fun h => h
  show wpAny P .any _ Q 4 #[false, false, false, false] a w.drew
  have f3 := b3.drew.setRow cs1
  have f4 := (b4.drew.setRow_far y2 cs1).setRow cs2
  have f3' := f3.setRow_far y2.symm cs2
  have fm : Mods (fun i => i = g3 ∨ i = g4) w ((w.drew.setRow g3 cs1).setRow g4 cs2) := Mods.setRow (Mods.setRow (Mods.refl _ _).drew (fun _ => .inl rfl) _) (fun _ => .inr rfl) _
  have z1' : d1 < (a.put (some d0) (.agg cs1)).tmps.size := by rw [put_size]; exact z1
  have z0' : d0 < (a.put (some d1) (.agg cs2)).tmps.size := by rw [put_size]; exact z0
  refine wpAny_ready (rs := [0, 1]) (by kernel_rfl) (by simp) (AllReady.cons rfl (fun K' hK => ?_) (AllReady.cons rfl (fun K' hK => ?_) AllReady.nil))
  · refine L1 _ _ _ _ e1 b1.drew (hK _ _ ?_)
    refine wpAny_ready (rs := [1, 2]) (by kernel_rfl) (by simp) (AllReady.cons rfl (fun K' hK => ?_) (AllReady.cons rfl (fun K' hK => ?_) AllReady.nil))
    · refine L2 _ _ _ _ ((eval_put_ne n1).trans e2) b2.drew (hK _ _ ?_)
      refine wpAny_ready (rs := [2]) (by kernel_rfl) (by simp) (AllReady.cons rfl (fun K' hK => ?_) AllReady.nil)
      refine S1 _ _ _ _ ((eval_put_ne n6).trans ((eval_put_ne n2).trans e3)) ((eval_put_ne n4.symm).trans (eval_put_same z0)) b3.drew (hK _ _ ?_)
      refine wpAny_ready (rs := [3]) (by kernel_rfl) (by simp) (AllReady.cons rfl (fun K' hK => ?_) AllReady.nil)
      refine S2 _ _ _ _ ((eval_put_ne n7).trans ((eval_put_ne n3).trans e4)) (eval_put_same z1') (b4.drew.setRow_far y2 cs1) (hK _ _ ?_)
      refine wpAny_done (by kernel_rfl) ?_ _
      exact hQ _ _ ((eval_put_ne n6).trans ((eval_put_ne n2).trans e3)) ((eval_put_ne n7).trans ((eval_put_ne n3).trans e4)) rfl f3' f4 fm
    · refine S1 _ _ _ _ ((eval_put_ne n2).trans e3) (eval_put_same z0) b3.drew (hK _ _ ?_)
      refine wpAny_ready (rs := [1]) (by kernel_rfl) (by simp) (AllReady.cons rfl (fun K' hK => ?_) AllReady.nil)
      refine L2 _ _ _ _ ((eval_put_ne n1).trans e2) (b2.drew.setRow_far y1 cs1) (hK _ _ ?_)
      refine wpAny_ready (rs := [3]) (by kernel_rfl) (by simp) (AllReady.cons rfl (fun K' hK => ?_) AllReady.nil)
      refine S2 _ _ _ _ ((eval_put_ne n7).trans ((eval_put_ne n3).trans e4)) (eval_put_same z1') (b4.drew.setRow_far y2 cs1) (hK _ _ ?_)
      refine wpAny_done (by kernel_rfl) ?_ _
      exact hQ _ _ ((eval_put_ne n6).trans ((eval_put_ne n2).trans e3)) ((eval_put_ne n7).trans ((eval_put_ne n3).trans e4)) rfl f3' f4 fm
  · refine L2 _ _ _ _ e2 b2.drew (hK _ _ ?_)
    refine wpAny_ready (rs := [0]) (by kernel_rfl) (by simp) (AllReady.cons rfl (fun K' hK => ?_) AllReady.nil)
    refine L1 _ _ _ _ ((eval_put_ne n5).trans e1) b1.drew (hK _ _ ?_)
    refine wpAny_ready (rs := [2]) (by kernel_rfl) (by simp) (AllReady.cons rfl (fun K' hK => ?_) AllReady.nil)
    refine S1 _ _ _ _ ((eval_put_ne n2).trans ((eval_put_ne n6).trans e3)) (eval_put_same z0') b3.drew (hK _ _ ?_)
    refine wpAny_ready (rs := [3]) (by kernel_rfl) (by simp) (AllReady.cons rfl (fun K' hK => ?_) AllReady.nil)
    refine S2 _ _ _ _ ((eval_put_ne n3).trans ((eval_put_ne n7).trans e4)) ((eval_put_ne n4).trans (eval_put_same z1)) (b4.drew.setRow_far y2 cs1) (hK _ _ ?_)
    refine wpAny_done (by kernel_rfl) ?_ _
    exact hQ _ _ ((eval_put_ne n2).trans ((eval_put_ne n6).trans e3)) ((eval_put_ne n3).trans ((eval_put_ne n7).trans e4)) rfl f3' f4 fm

/-- Results that are two structs. -/
theorem results_rows2 {fn : Func} {p q : Tmp} {T1 T2 : TypeId} (h : fn.results = #[.cell p T1, .cell q T2]) (a : Act) (w : World) {g1 g2 : Nat} {t1 t2 : TypeId} {cs1 cs2 : Array Value} {D1 D2 : TypeDesc}
    (e1 : a.eval (.tmp p) = .pointer (some ⟨g1, 0, none⟩)) (e2 : a.eval (.tmp q) = .pointer (some ⟨g2, 0, none⟩)) (b1 : Blk w g1 t1 cs1) (b2 : Blk w g2 t2 cs2)
    (u1 : P.underlying T1 = some D1) (q1 : (match D1 with | .struct _ | .array _ _ => true | _ => false) = true) (u2 : P.underlying T2 = some D2) (q2 : (match D2 with | .struct _ | .array _ _ => true | _ => false) = true)
    (i1 : (P.info? T1).map (·.size) = some cs1.size) (i2 : (P.info? T2).map (·.size) = some cs2.size) :
    (results fn a.tmps).run P w = .ok (.tuple #[.agg cs1, .agg cs2]) w := by
  have r1 := run_loadVar_row (P := P) w g1 t1 T1 cs1 (0, 0) D1 b1 u1 q1 i1
  have r2 := run_loadVar_row (P := P) w g2 t2 T2 cs2 (0, 0) D2 b2 u2 q2 i2
  have e1' : a.tmps[p]?.getD undef = .pointer (some ⟨g1, 0, none⟩) := by simpa [Act.eval] using e1
  have e2' : a.tmps[q]?.getD undef = .pointer (some ⟨g2, 0, none⟩) := by simpa [Act.eval] using e2
  simp [results, h, e1', e2', asAddr, r1, r2, Sem.run_bind]
/-- A struct and a value. -/
theorem results_row_tmp {fn : Func} {p q : Tmp} {T1 : TypeId} (h : fn.results = #[.cell p T1, .tmp q]) (tmps : Array Value) (w : World) {g1 : Nat} {t1 : TypeId} {cs1 : Array Value} {D1 : TypeDesc} {v : Value}
    (e1 : tmps.getD p undef = .pointer (some ⟨g1, 0, none⟩)) (e2 : tmps.getD q undef = v) (b1 : Blk w g1 t1 cs1)
    (u1 : P.underlying T1 = some D1) (q1 : (match D1 with | .struct _ | .array _ _ => true | _ => false) = true) (i1 : (P.info? T1).map (·.size) = some cs1.size) :
    (results fn tmps).run P w = .ok (.tuple #[.agg cs1, v]) w := by
  have r1 := run_loadVar_row (P := P) w g1 t1 T1 cs1 (0, 0) D1 b1 u1 q1 i1
  have e1' : tmps[p]?.getD undef = .pointer (some ⟨g1, 0, none⟩) := by simpa using e1
  have e2' : tmps[q]?.getD undef = v := by simpa using e2
  simp [results, h, e1', e2', asAddr, r1]
end
end Go.Proofs.Ytpabbhhaagfoeaa
end
