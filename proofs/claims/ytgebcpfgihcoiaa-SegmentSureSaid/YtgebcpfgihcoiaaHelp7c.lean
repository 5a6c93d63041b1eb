/- A row of strings that the walk keeps: appended to, cut full. -/
import Derived.Test.YtgebcpfgihcoiaaHelp7b
import Derived.Test.YtgebcpfgihcoiaaClone
namespace Go.Proofs.Ytgebcpfgihcoiaa
set_option maxRecDepth 100000
open Go.RowKit
set_option linter.unusedVariables false

def strs (bs : List (List UInt8)) : List Value := bs.map fun b => .string (strOf b)
theorem strs_length (bs : List (List UInt8)) : (strs bs).length = bs.length := by simp [strs]
theorem strs_at {bs : List (List UInt8)} {j : Nat} {b : List UInt8} (h : bs[j]? = some b) : (strs bs)[j]? = some (.string (strOf b)) := by simp [strs, h]
theorem strs_snoc (bs : List (List UInt8)) (b : List UInt8) : strs bs ++ [.string (strOf b)] = strs (bs ++ [b]) := by simp [strs]
theorem strs_take (bs : List (List UInt8)) (k : Nat) : (strs bs).take k = strs (bs.take k) := by simp [strs, List.map_take]
theorem infoStr7 : (Try.prog.info? 9).map (fun i => (i.zero, i.size, i.bytes)) = some (some (.string ⟨#[]⟩), 1, 16) := by kernel_rfl
theorem size_str7 (W : World) : (sizeOf (Try.prog.elem 28)).run Try.prog W = .ok 1 W := rfl
/-- Blocks of strings that are new. -/
def SR (base : Nat) (w : World) : Nat → Prop := fun k => base ≤ k ∧ ∃ cs, Blk w k 9 cs
/-- The row: the call's own, or full. -/
structure All7 (W : World) (base : Nat) (A : Option Addr) (c n : Nat) (xs : List Value) : Prop where
  len : xs.length = n
  sl : Sl W A c xs
  kind : ∀ a, A = some a → base ≤ a.block ∧ ∃ cs, Blk W a.block 9 cs
  own : W.ownsRow base 9 1 (.slice A n c) n xs ∨ c = n
section
variable {W W' : World} {base sb db c n : Nat} {A : Option Addr} {xs : List Value}
theorem All7.mods {S : Nat → Prop} (h : All7 W base A c n xs) (hm : Mods S W W') (hS : ∀ k cs, S k → ¬ Blk W k 9 cs) : All7 W' base A c n xs := by
  have key : ∀ a, A = some a → ¬ S a.block := fun a ha hs => by
    obtain ⟨_, cs, hb⟩ := h.kind a ha
    exact hS _ _ hs hb
  refine ⟨h.len, h.sl.mods hm key, fun a ha => ?_, ?_⟩
  · obtain ⟨h1, cs, hb⟩ := h.kind a ha
    exact ⟨h1, cs, hb.mods hm (key a ha)⟩
  · rcases h.own with ho | ho
    · refine .inl (own_mods ho hm (fun k hk => ?_))
      cases A with
      | none => simp [Value.ownBlock] at hk
      | some a =>
        simp [Value.ownBlock] at hk
        subst hk
        exact key a rfl
    · exact .inr ho
theorem All7.nil (h : All7 W base A c n xs) (hm : Mods Nil W W') : All7 W' base A c n xs := h.mods hm (fun _ _ h => h.elim)
theorem All7.sm (h : All7 W base A c n xs) (hm : SM base W W') : All7 W' base A c n xs := h.mods hm (fun k cs hs hb => by
  obtain ⟨_, hs⟩ := hs
  rcases hs with ⟨t, cs2, h2, h3⟩ | ⟨es, c, h2⟩
  · obtain rfl := blk_typ hb h2
    rcases h3 with h3 | h3 | h3 | h3 <;> exact absurd h3 (by decide)
  · exact blk_map hb h2)
theorem All7.dm (h : All7 W base A c n xs) (hm : DM base W W') : All7 W' base A c n xs := h.sm (SM.dm hm)
theorem All7.none_ (W : World) (base : Nat) : All7 W base none 0 0 [] := ⟨rfl, Sl.none_ _, (fun a ha => by cases ha), .inr rfl⟩
theorem all_of_own {v : Value} (h : W.ownsRow base 9 1 v n xs) : ∃ A c, v = .slice A n c ∧ All7 W base A c n xs := by
  obtain ⟨A, c, rfl, hn, hs, hb⟩ := own_slice h
  exact ⟨A, c, rfl, hn.symm, hs, fun a ha => own_kind h _ (hb a ha).1, .inl h⟩
theorem All7.cut (h : All7 W base A c n xs) {k : Nat} (hk : k ≤ n) :
    (∀ V : World, (Instr.slice 28 (.slice A n c) none (some (.int .i64 (k : Int))) (some (.int .i64 (k : Int)))).run Try.prog V = .ok (.slice A k k) V) ∧ All7 W base A k k (xs.take k) := by
  have hle := h.sl.le
  have hl := h.len
  refine ⟨fun V => ?_, ⟨by simp; omega, ⟨by simp; omega, by have := h.sl.max; omega, fun hn => by have := h.sl.nil hn; omega, (h.sl.take k).has⟩, h.kind, .inr rfl⟩⟩
  rw [run_slice_hm (P := Try.prog) V _ A n c (by exact Try.underlying28) .i64 .i64 (k : Int) (k : Int) (by omega) (by omega) (by omega)]
  rw [size_str7]
  simp [Result.andThen, sliced]
  intro _
  cases A with
  | none => rfl
  | some a =>
    simp
    unfold Addr.add
    split <;> simp_all
theorem wpList_append_all {ops : Array Oper} {rest : List Oper} {o : Oper} {a : Act} {Q : Exit → Act → World → Prop}
    (hg : o.guard = none) (s x : Operand) (hop : o.op = Op.call { callee := Callee.builtin Builtin.append, args := #[s, x], argTypes := #[28, 28] })
    (hs : a.eval s = .slice A n c) (h : All7 W base A c n xs) {g n1 : Nat} {u : ByteArray} (hx : a.eval x = .slice (some ⟨g, 0, none⟩) 1 1) (hsl : Sl W (some ⟨g, 0, none⟩) 1 [.string u])
    (hn : n ≤ 1000) (h1 : n + 1 = n1) (hbase : base ≤ W.heap.size)
    (hK : ∀ A' c' w', All7 w' base A' c' n1 (xs ++ [.string u]) → Mods (SR base W) W w' → wpList Try.prog ops Q rest (a.put o.dst (.slice A' n1 c')) w') :
    wpList Try.prog ops Q (o :: rest) a W := by
  subst h1
  obtain ⟨i0, hi, hz0, hz1, hz2⟩ := info_parts infoStr7
  rcases h.own with ho | hc
  · refine wpList_append_sl W hg s x 28 hop base 9 i0 (.string ⟨#[]⟩) 16 Try.underlying28 hi hz0 hz1 hz2 rfl _ n xs hs ho _ 1 1 [.string u] hx rfl hsl (by simp [Value.oneCell']) (by omega) (by unfold maxLen; omega) hbase ?_
    intro v' w' own' g' b'
    obtain ⟨A', c', rfl, hall⟩ := all_of_own own'
    exact hK A' c' w' hall ((Mods.refl _ W).grown g' (fun k hk _ => own_kind ho k hk))
  · have hh := h.sl.has
    refine wpList_append_grows W hg s x 28 hop 9 i0 (.string ⟨#[]⟩) 1 16 Try.underlying28 hi hz0 hz1 hz2 rfl (by omega) A n c xs hs (fun hn => by have h2 := h.sl.nil hn; have := h.sl.le; have := h.len; exact ⟨by omega, h2⟩) (by have := h.len; omega) ?_ ⟨g, 0, none⟩ 1 1 [.string u] hx rfl (fun j v hv => by rw [Addr.add_lit]; exact hsl.cells j v hv) (by simp [Value.oneCell']) (by omega) (by unfold maxLen; omega) (by omega) ?_
    · intro b hb j v hv
      subst hb
      have hpos : 0 < xs.length := by
        rcases Nat.eq_zero_or_pos xs.length with h0 | h0
        · rw [List.eq_nil_of_length_eq_zero h0] at hv
          simp at hv
        · exact h0
      obtain ⟨b1, off, e, _, hcl⟩ := h.sl.at_ hpos
      injection e with e
      subst e
      rw [Addr.add_lit]
      exact hcl j v hv
    · intro v' w' own' g'
      obtain ⟨A', c', rfl, hall⟩ := all_of_own (own_rebase own' hbase)
      exact hK A' c' w' hall ((Mods.refl _ W).grown g' (fun k hk => by cases hk))
theorem sr_typ {k : Nat} (hs : SR base W k) {t : TypeId} {cs : Array Value} (hb : Blk W k t cs) : t = 9 := by
  obtain ⟨_, cs2, h2⟩ := hs
  exact blk_typ hb h2
theorem At7.sr {pre L post : List (List UInt8)} {old : Recs} {news : List (List UInt8)} {E m : Nat} (h : At7 W base sb db pre L post old news E m) (hm : Mods (SR base W) W W') : At7 W' base sb db pre L post old news E m := by
  obtain ⟨h1, mb, h2⟩ := h.at_
  refine ⟨⟨h1.off hm (fun k hs hd => ?_), mb, h2.off hm (fun hs => ?_) (fun hs => ?_) (fun k cs hs hb => absurd (sr_typ hs hb) (by decide))⟩, h.run⟩
  · obtain ⟨_, t, cs, hb, ht⟩ := hd
    obtain rfl := sr_typ hs hb
    rcases ht with ht | ht | ht <;> exact absurd ht (by decide)
  · exact absurd (sr_typ hs h2.blk) (by decide)
  · obtain ⟨_, cs, hb⟩ := hs
    obtain ⟨f, h3, _⟩ := h2.map
    obtain ⟨es, c, hb2⟩ := h3.isMap
    exact blk_map hb hb2
theorem sr_nil {w : World} (h : Mods Nil w W) (hm : Mods (SR w.heap.size W) W W') : Mods Nil w W' := h.nil_trans hm (fun i hi => hi.1)
theorem usedP_take (E j : Nat) (news : List (List UInt8)) : usedP (with_ E (news.take j)) ≤ usedP (with_ E news) := by
  have e : with_ E news = with_ E (news.take j) ++ with_ E (news.drop j) := by rw [← with_append, List.take_append_drop]
  rw [e, usedP_append]
  omega
theorem needP_150 {q : Nat} (h : q ≤ 150) : needP q ≤ 4 := by
  unfold needP
  split <;> omega
theorem take_recs {old : Recs} {news : List (List UInt8)} {E j : Nat} {R : List (List UInt8)} (h : old.map (·.1) ++ news = R) : (old ++ with_ E (news.take j)).map (·.1) ++ [] = R.take (old.length + j) := by
  subst h
  rw [List.map_append, with_fst, List.append_nil, List.take_append, List.take_of_length_le (l := old.map (·.1)) (by simp)]
  simp
end
end Go.Proofs.Ytgebcpfgihcoiaa
