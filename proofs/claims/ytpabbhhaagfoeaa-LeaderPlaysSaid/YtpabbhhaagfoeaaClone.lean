/- bytes.Clone; an append onto an empty slice, its place told. -/
import Derived.Test.YtpabbhhaagfoeaaBaseM
import Derived.Lib.SliceRun
namespace Go.Proofs.Ytpabbhhaagfoeaa
set_option maxRecDepth 100000
open Go.RowKit
set_option linter.unusedVariables false

theorem own_kind {w : World} {base size n : Nat} {e : TypeId} {v : Value} {xs : List Value} (h : w.ownsRow base e size v n xs) : ∀ k, v.ownBlock = some k → base ≤ k ∧ ∃ cs, Blk w k e cs := by
  intro k hk
  refine ⟨(h.lt k hk).1, ?_⟩
  rcases h.2 with ⟨rfl, _⟩ | ⟨g, cap, cur, rfl, _, hb, _⟩
  · simp [Value.ownBlock] at hk
  · simp [Value.ownBlock] at hk
    subst hk
    exact ⟨cur, hb⟩

/-- An append onto a slice without room and without elements: where the row then lies. -/
def FreshB (w w' : World) (A : Option Addr) (e : TypeId) (xs : List Value) : Prop := xs ≠ [] → ∀ a, A = some a → w.heap.size ≤ a.block ∧ ∃ cs, Blk w' a.block e cs
section
variable {P : Program}
theorem run_append_zero2 (w : World) (t ty e : TypeId) (i : TypeInfo) (z : Value) (bytes : Nat) (ht : P.underlying t = some (.slice e)) (hi : P.info? e = some i) (hz : i.zero = some z)
    (hsize : i.size = 1) (hby : i.bytes = bytes) (hzs : z.cells.size = 1) (A0 : Option Addr)
    (A : Option Addr) (m c : Nat) (news : List Value) (hm : news.length = m) (hsl : Sl w A c news) (h1 : ∀ u ∈ news, u.oneCell' = true)
    (hbytes : m * bytes ≤ 140737488355328) :
    ∃ A' c' w', (Builtin.append_ #[t, t] ty #[.slice A0 0 0, .slice A m c]).run P w = .ok (.slice A' m c') w' ∧ Sl w' A' c' news ∧ Mods Nil w w' ∧ FreshB w w' A' e news := by
  subst hm
  by_cases hne : news.length = 0
  · obtain rfl : news = [] := List.eq_nil_of_length_eq_zero hne
    refine ⟨A0, 0, w, ?_, ⟨Nat.le_refl _, Nat.zero_le _, fun _ => rfl, .inl rfl⟩, Mods.refl _ _, fun h => absurd rfl h⟩
    cases A0 <;> cases A <;> simp [Builtin.append_, run_underlying ht, sizeOf, typeInfo, hi, Builtin.lenOf, Builtin.firstCells, loadCells, loadCellsFrom, storeCells]
  · obtain ⟨b, off, rfl, _, hc⟩ := hsl.at_ (by omega)
    have hc' : ∀ j u, news[j]? = some u → w.cell? ((⟨b, off, none⟩ : Addr).add j) = some u := fun j u hu => by rw [Addr.add_lit]; exact hc j u hu
    have hmx : news.length ≤ maxLen := Nat.le_trans hsl.le hsl.max
    have fin : ∀ v' w', w'.ownsRow w.heap.size e 1 v' (0 + news.length) ([] ++ news) → w.grownBy w' none → ∃ A' c', v' = .slice A' news.length c' ∧ Sl w' A' c' news ∧ Mods Nil w w' ∧ FreshB w w' A' e news := by
      intro v' w' ho hg
      simp only [Nat.zero_add, List.nil_append] at ho
      have hk := own_kind ho
      obtain ⟨A', c', rfl, _, hs, hb⟩ := own_slice ho
      exact ⟨A', c', rfl, hs, (Mods.refl _ _).grown hg (fun k hk => by cases hk), fun _ a ha => hk _ (hb a ha).1⟩
    cases A0 with
    | some a0 =>
      obtain ⟨v', w', hr, ho, hg⟩ := run_append_arg_grows (P := P) w t ty e i z 1 bytes ht hi hz hsize hby hzs (by omega) a0 0 0 [] (by simp) (by simp) ⟨b, off, none⟩ news.length c news (by simp) hc' (by omega) (by omega) (by simpa using hbytes)
      obtain ⟨A', c', rfl, h5, h6, h7⟩ := fin v' w' ho hg
      exact ⟨A', c', w', hr, h5, h6, h7⟩
    | none =>
      obtain ⟨v', w', hr, ho, hg, _⟩ := run_append_own (P := P) w w.heap.size t ty e i z 1 bytes ht hi hz hsize hby hzs (by omega) (.slice none 0 0) 0 [] (World.ownsRow_nil w _ e 1) ⟨b, off, none⟩ news.length c news (by simp) hc' h1 (by omega) (by simpa using hbytes) (Nat.le_refl _)
      obtain ⟨A', c', rfl, h5, h6, h7⟩ := fin v' w' ho hg
      exact ⟨A', c', w', hr, h5, h6, h7⟩
theorem wpList_append_zero2 (w : World) {ops : Array Oper} {rest : List Oper} {o : Oper} {a : Act} {Q : Exit → Act → World → Prop}
    (hg : o.guard = none) (s x : Operand) (t : TypeId) (hop : o.op = Op.call { callee := Callee.builtin Builtin.append, args := #[s, x], argTypes := #[t, t] })
    (e : TypeId) (i : TypeInfo) (z : Value) (bytes : Nat) (ht : P.underlying t = some (.slice e)) (hi : P.info? e = some i) (hz : i.zero = some z)
    (hsize : i.size = 1) (hby : i.bytes = bytes) (hzs : z.cells.size = 1) (A0 : Option Addr) (hs : a.eval s = .slice A0 0 0)
    (A : Option Addr) (m c : Nat) (news : List Value) (hx : a.eval x = .slice A m c) (hm : news.length = m) (hsl : Sl w A c news) (h1 : ∀ u ∈ news, u.oneCell' = true)
    (hbytes : m * bytes ≤ 140737488355328)
    (hK : ∀ A' c' w', Sl w' A' c' news → Mods Nil w w' → FreshB w w' A' e news → wpList P ops Q rest (a.put o.dst (.slice A' m c')) w') :
    wpList P ops Q (o :: rest) a w := by
  refine wpList_plain hg fun K hK' => ?_
  obtain ⟨A', c', w', hrun, h2, h3, h4⟩ := run_append_zero2 (P := P) w t o.type e i z bytes ht hi hz hsize hby hzs A0 A m c news hm hsl h1 hbytes
  unfold Oper.wp
  simp [execOp, hop, resolve, invoke, builtin, hs, hx, hrun, Result.andThen]
  exact hK' _ _ (hK A' c' w' h2 h3 h4)
end

/-- What a copy leaves. -/
def Cloned (w : World) (xs : List UInt8) (n : Nat) (e : Ending) (w' : World) : Prop := ∃ A c, e = .returned (.slice A n c) ∧ Sl w' A c (bts xs) ∧ Mods Nil w w' ∧ FreshB w w' A 5 (bts xs)
theorem clone_any {w : World} {A : Option Addr} {c n : Nat} {xs : List UInt8} (hn : xs.length = n) (hlim : n ≤ 140737488355328) (hs : Sl w A c (bts xs)) :
    Calls Try.prog 60 #[.slice A n c] w (Cloned w xs n) := by
  obtain ⟨i0, hi, hz0, hz1, hz2⟩ := info_parts infoByte
  have HN := Lib.hid hn
  cases A with
  | none =>
    obtain ⟨rfl, hx⟩ := hs.of_nil
    obtain rfl : xs = [] := by cases xs with | nil => rfl | cons x r => simp [bts] at hx
    obtain rfl : n = 0 := by simpa using hn.symm
    clear hs hx hn
    have hq : ∀ W : World, (Go.binOp .eql 34 (.slice none 0 0) (.slice none 0 0)).run Try.prog W = .ok (.bool true) W := fun W => Go.Lib.run_eql_slice_nil W 34 5 none 0 0 0 0 Try.underlying34
    go_enter Try.func60, Try.ntmps60
    go_wp2
    go_ret
    exact ⟨none, 0, rfl, Sl.none_ _, Mods.refl _ _, fun h => absurd rfl h⟩
  | some a =>
    have HS := Lib.hid hs
    clear hs hn
    have hq : ∀ W : World, (Go.binOp .eql 34 (.slice (some a) n c) (.slice none 0 0)).run Try.prog W = .ok (.bool false) W := fun W => Go.Lib.run_eql_slice_nil W 34 5 (some a) n c 0 0 Try.underlying34
    go_enter Try.func60, Try.ntmps60
    go_wp2_with (at_builtin; refine wpList_append_zero2 _ rfl _ _ 34 rfl 5 i0 (.int .u8 0) 1 Try.underlying34 hi hz0 hz1 hz2 rfl (some ⟨w.heap.size, 0, none⟩) rfl (some a) n c (bts xs) rfl (by rw [bts_length]; exact HN.out) (HS.out.alloc _) (bts_one _) (by omega) ?_; intro A2 c2 w2 s2 m2 f2; have S2 := Lib.hid s2; have M2 := Lib.hid (((Mods.refl Nil w).alloc (.cells #[] 5)).trans m2); have F2 := Lib.hid f2; clear s2 m2 f2)
    go_ret
    exact ⟨A2, c2, rfl, S2.out, M2.out, fun hx a ha => ⟨by have := (F2.out hx a ha).1; simp at this; omega, (F2.out hx a ha).2⟩⟩
end Go.Proofs.Ytpabbhhaagfoeaa
