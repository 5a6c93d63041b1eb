/- Package learner: Get, From. -/
import Derived.Test.YtbpflkjodiaokaaLrn1
namespace Go.Proofs.Ytbpflkjodiaokaa
set_option maxRecDepth 100000
open Go.RowKit Go.Maps
set_option linter.unusedVariables false
set_option linter.unusedSimpArgs false

/-- What Get tells. -/
def LGetT (W : World) (L : List KV) (s : Nat) (e : Ending) (W' : World) : Prop :=
  ∃ A n c, e = .returned (.tuple #[.slice A n c, .bool (lookL L s).isSome]) ∧ (∀ v, lookL L s = some v → v.length = n ∧ Sl W' A c (bts v)) ∧ Mods Nil W W'
/-- What Get tells, and where it lies. -/
def LGetF (W : World) (L : List KV) (s : Nat) (r : Bool) (e : Ending) (W' : World) : Prop :=
  ∃ A n c, e = .returned (.tuple #[.slice A n c, .bool r]) ∧ (∀ v, lookL L s = some v → v.length = n ∧ Sl W' A c (bts v) ∧ (bts v ≠ [] → ∀ a, A = some a → W.heap.size ≤ a.block ∧ ∃ cs, Blk W' a.block 5 cs)) ∧ Mods Nil W W'
section
variable {W0 W W' : World} {X S : Nat → Prop} {b T : Nat} {L : List KV} {mv : Value}
theorem LrS.get_f (h : LrS W0 W X b L T) {s : Nat} (hs : s < 18446744073709551616) {r : Bool} (hr : (lookL L s).isSome = r) :
    Calls Try.prog 18 #[.pointer (some ⟨b, 0, none⟩), .int .u64 (s : Int)] W (LGetF W L s r) := by
  obtain ⟨mv, r0, h0, h1, h2⟩ := h.blk
  obtain ⟨A, n, c, g1, g2, g3⟩ := h2.look hs (S := Nil) (fun _ _ h => h)
  have c0 := h1.cell 0
  simp at c0
  have hx : ∃ xs : List UInt8, xs.length = n ∧ n ≤ 100000 ∧ Sl W A c (bts xs) ∧ ∀ v, lookL L s = some v → v = xs := by
    cases hl : lookL L s with
    | none =>
      obtain ⟨rfl, rfl, rfl⟩ := g3 hl
      exact ⟨[], rfl, by omega, Sl.none_ _, fun v hv => (by cases hv)⟩
    | some v =>
      obtain ⟨q1, q2, q3⟩ := g2 v hl
      exact ⟨v, q1, q2, q3, fun u hu => by injection hu with hu; exact hu.symm⟩
  obtain ⟨xs, x1, x2, x3, x4⟩ := hx
  have z := g1 W (Mods.refl _ _)
  rw [hr] at z
  have HCL := Lib.hid (clone_any (w := W) x1 (by omega) x3)
  have X1 := Lib.hid x1
  have X4 := Lib.hid x4
  clear h h0 h1 h2 g1 g2 g3 x1 x2 x3 x4 hr
  go_enter Try.func18, Try.ntmps18
  go_wp2_with (go_at_call 22; refine HCL.out.mono ?_; rintro e w2 ⟨A2, k2, rfl, s2, m2, f2⟩; have S2 := Lib.hid s2; have M2 := Lib.hid m2; have F2 := Lib.hid f2; clear s2 m2 f2)
  go_ret2
  exact ⟨A2, n, k2, rfl, fun v hv => by rw [X4.out v hv]; exact ⟨X1.out, S2.out, F2.out⟩, M2.out⟩
theorem LrS.get (h : LrS W0 W X b L T) (hT : T ≤ 1000) {s : Nat} (hs : s < 18446744073709551616) :
    Calls Try.prog 18 #[.pointer (some ⟨b, 0, none⟩), .int .u64 (s : Int)] W (LGetT W L s) := by
  refine (h.get_f hs rfl).mono ?_
  rintro e W' ⟨A, n, c, h1, h2, h3⟩
  exact ⟨A, n, c, h1, fun v hv => ⟨(h2 v hv).1, (h2 v hv).2.1⟩, h3⟩
/-- Values that were told: a slice of rows of bytes. -/
structure FromR (W : World) (A : Option Addr) (c n : Nat) (R : List (Option Addr × Nat × List UInt8)) (l : List (List UInt8)) : Prop where
  len : R.length = n
  val : R.map (fun r => r.2.2) = l
  sl : Sl W A c (R.map fun r => .slice r.1 r.2.2.length r.2.1)
  bys : ∀ r ∈ R, Sl W r.1 r.2.1 (bts r.2.2)
end
def rowL (r : Option Addr × Nat × List UInt8) : Value := .slice r.1 r.2.2.length r.2.1
/-- They, in memory of the call's own. -/
structure OwnL (base : Nat) (w : World) (v : Value) (R : List (Option Addr × Nat × List UInt8)) : Prop where
  own : w.ownsRow base 28 1 v R.length (R.map rowL)
  bys : ∀ r ∈ R, Sl w r.1 r.2.1 (bts r.2.2) ∧ (bts r.2.2 ≠ [] → ∀ a, r.1 = some a → base ≤ a.block ∧ ∃ cs, Blk w a.block 5 cs)
theorem OwnL.none_ (base : Nat) (w : World) : OwnL base w (.slice none 0 0) [] := ⟨World.ownsRow_nil _ _ _ _, fun q h => by cases h⟩
theorem OwnL.nil {base : Nat} {w w' : World} {v : Value} {R : List (Option Addr × Nat × List UInt8)} (h : OwnL base w v R) (hm : Mods Nil w w') : OwnL base w' v R :=
  ⟨own_mods h.own hm (fun _ _ h => h), fun r hr => ⟨(h.bys r hr).1.mods hm (fun _ _ h => h), fun hne a ha => ⟨((h.bys r hr).2 hne a ha).1, by obtain ⟨cs, hb⟩ := ((h.bys r hr).2 hne a ha).2; exact ⟨cs, hb.mods hm (fun h => h)⟩⟩⟩⟩
theorem OwnL.push {base : Nat} {w w1 : World} {v v' : Value} {R : List (Option Addr × Nat × List UInt8)} {q : Option Addr × Nat × List UInt8} (h : OwnL base w v R) (hq : Sl w q.1 q.2.1 (bts q.2.2) ∧ (bts q.2.2 ≠ [] → ∀ a, q.1 = some a → base ≤ a.block ∧ ∃ cs, Blk w a.block 5 cs))
    (ho : w1.ownsRow base 28 1 v' (R.length + 1) (R.map rowL ++ [rowL q])) (hm : Mods (fun k => v.ownBlock = some k) w w1) : OwnL base w1 v' (R ++ [q]) := by
  refine ⟨by simpa using ho, fun r hr => ?_⟩
  have hr1 : Sl w r.1 r.2.1 (bts r.2.2) ∧ (bts r.2.2 ≠ [] → ∀ a, r.1 = some a → base ≤ a.block ∧ ∃ cs, Blk w a.block 5 cs) := by
    rcases List.mem_append.1 hr with hr | hr
    · exact h.bys r hr
    · rw [List.mem_singleton.1 hr]; exact hq
  obtain ⟨a1, a2⟩ := hr1
  have off : ∀ k, (∃ cs, Blk w k 5 cs) → ¬ v.ownBlock = some k := fun k ⟨cs, hb⟩ => own_blk_ne h.own hb (by decide)
  refine ⟨a1.mods' hm (fun hne a ha hs => off _ (a2 hne a ha).2 hs), fun hne a ha => ⟨(a2 hne a ha).1, ?_⟩⟩
  obtain ⟨b1, cs, b2⟩ := a2 hne a ha
  exact ⟨cs, b2.mods hm (off _ ⟨cs, b2⟩)⟩
theorem infoBsL : (Try.prog.info? 28).map (fun i => (i.zero, i.size, i.bytes)) = some (some (.slice none 0 0), 1, 24) := by kernel_rfl
theorem new1L {w : World} {t : TypeId} {x : Value} : ∀ j u, [x][j]? = some u → (w.alloc (.cells #[x] t)).cell? ((⟨w.heap.size, 0, none⟩ : Addr).add j) = some u := by
  intro j u hu
  rw [Addr.add_lit, World.cell?_alloc_mark]
  match j, hu with
  | 0, hu => simpa using hu
theorem push_bs {ops : Array Oper} {rest : List Oper} {o : Oper} {a : Act} {Q : Exit → Act → World → Prop} (hgd : o.guard = none) (s x : Operand)
    (ho : o.op = .call { callee := .builtin .append, args := #[s, x], argTypes := #[23, 23] })
    {W : World} {base m : Nat} {v : Value} {l : List Value} {A : Option Addr} {n c : Nat} (hs : a.eval s = v) (hown : W.ownsRow base 28 1 v m l) (hx : a.eval x = .slice (some ⟨W.heap.size, 0, none⟩) 1 1)
    (hlim : m ≤ 1000000) (hbase : base ≤ W.heap.size)
    (h : ∀ v' w', w'.ownsRow base 28 1 v' (m + 1) (l ++ [.slice A n c]) → Mods (fun k => v.ownBlock = some k) W w' → wpList Try.prog ops Q rest (a.put o.dst v') w') :
    wpList Try.prog ops Q (o :: rest) a (W.alloc (.cells #[.slice A n c] 28)) := by
  obtain ⟨i0, hi0, hz0, hz1, hz2⟩ := info_parts infoBsL
  refine wpList_append_own _ hgd s x 23 ho base 28 i0 (.slice none 0 0) 1 24 Try.underlying23 hi0 hz0 hz1 hz2 rfl (by decide) v m l hs (own_mods hown ((Mods.refl Nil W).alloc _) (fun _ _ h => h)) ⟨W.heap.size, 0, none⟩ 1 1 [.slice A n c] hx rfl new1L (by simp [Value.oneCell']) (by unfold maxLen; omega) (by omega) (by simp; omega) ?_
  intro v' w' h1 h2 _
  exact h v' w' h1 (((Mods.refl (fun k => v.ownBlock = some k) W).alloc _).grown h2 (fun k hk _ => hk))
/-- How long a row is. -/
def lenV : Value → Nat
  | .slice _ n _ => n
  | _ => 0
theorem fromL_stop {L : List KV} {s k : Nat} (h : lookL L s = none) : fromL L s k = [] := by
  cases k with
  | zero => rfl
  | succ k => simp [fromL, h]
theorem fromL_go {L : List KV} {s k : Nat} {v : List UInt8} (h : lookL L s = some v) : fromL L s (k + 1) = v :: fromL L (s + 1) k := by simp [fromL, h]
section
variable {W0 W W' : World} {X S : Nat → Prop} {b T : Nat} {L : List KV} {mv : Value}
/-- What From tells. -/
def FromT (W : World) (l : List (List UInt8)) (e : Ending) (W' : World) : Prop := ∃ A c n R, e = .returned (.slice A n c) ∧ FromR W' A c n R l ∧ Mods Nil W W'
theorem OwnL.fromR {base : Nat} {w : World} {v : Value} {R : List (Option Addr × Nat × List UInt8)} {l : List (List UInt8)} (h : OwnL base w v R) (hl : R.map (fun r => r.2.2) = l) : ∃ A c, v = .slice A R.length c ∧ FromR w A c R.length R l := by
  obtain ⟨A, c, rfl, _, hs, _⟩ := own_slice h.own
  exact ⟨A, c, rfl, rfl, hl, hs, fun r hr => (h.bys r hr).1⟩
set_option maxHeartbeats 3200000 in
theorem LrS.from0 (h : LrS W0 W X b L T) {s : Nat} (hs : s < 18446744073709551616) {most : Int} (hm : most ≤ 100000) (hm2 : -9223372036854775808 ≤ most) :
    Calls Try.prog 20 #[.pointer (some ⟨b, 0, none⟩), .int .u64 (s : Int), .int .i64 most] W (FromT W (fromL L s most.toNat)) := by
  obtain ⟨M, hM⟩ : ∃ M, most.toNat = M := ⟨_, rfl⟩
  have HM := Lib.hid hM
  have H := Lib.hid h
  have HS := Lib.hid hs
  have hM5 : M ≤ 100000 := by omega
  rw [hM]
  clear h hM
  go_enter Try.func20, Try.ntmps20
  go_wp2
  go_loopw [1, 7] (fun x y wr => ∃ (k j : Nat) (R : List (Option Addr × Nat × List UInt8)), x = .int .u64 (k : Int) ∧ R.length = j ∧ j ≤ M ∧ k < 18446744073709551616 ∧ Hid (fromL L s M = R.map (fun r => r.2.2) ++ fromL L k (M - j)) ∧ Hid (OwnL W.heap.size wr y R) ∧ Hid (Mods Nil W wr)) (fun _ y _ => M - lenV y)
  case atStart => exact ⟨s, 0, [], rfl, rfl, Nat.zero_le _, hs, Lib.hid (by simp), Lib.hid (OwnL.none_ _ _), Lib.hid (Mods.refl _ _)⟩
  case round =>
    obtain ⟨k, j, R, rfl, hRj, hj, hk, HF, HO, HMW⟩ := hrel
    obtain ⟨A1, c1, rfl, hFR⟩ := HO.out.fromR rfl
    rw [hRj]
    rw [hRj] at HO
    have HRJ := Lib.hid hRj
    clear hRj hFR
    by_cases hlt : (j : Int) < most
    · have hjM : j < M := by have := HM.out; omega
      have H1 := Lib.hid (H.out.nil HMW.out)
      cases hl : lookL L k with
      | none =>
        have HG := Lib.hid (H1.out.get_f hk (r := false) (by rw [hl]; rfl))
        have HL := Lib.hid hl
        clear hl
        go_wp2_with (go_at_call 18; refine HG.out.mono ?_; rintro e w2 ⟨A2, n2, c2, rfl, _, m2⟩; have M2 := Lib.hid m2; clear m2)
        go_ret
        obtain ⟨A9, c9, e9, hfr⟩ := (HO.out.nil M2.out).fromR (l := fromL L s M) (by rw [HF.out, fromL_stop HL.out, List.append_nil])
        rw [HRJ.out] at e9 hfr
        injection e9 with e1 e2 e3
        subst e1
        subst e3
        exact ⟨A1, c1, j, R, rfl, hfr, HMW.out.trans M2.out⟩
      | some v =>
        have HG := Lib.hid (H1.out.get_f hk (r := true) (by rw [hl]; rfl))
        have HL := Lib.hid hl
        have hk2 : k < 18446744073709551615 := by
          rcases Nat.lt_or_ge k 18446744073709551615 with h | h
          · exact h
          · rw [look_end H.out.ok h] at hl; cases hl
        have hw1 : IntKind.u64.wrap ((k : Int) + 1) = ((k + 1 : Nat) : Int) := by rw [IntKind.wrap_u64]; omega
        have HN : Hid (fromL L s M = (R.map (fun r => r.2.2) ++ [v]) ++ fromL L (k + 1) (M - (j + 1))) := Lib.hid (by
          rw [HF.out, show M - j = (M - (j + 1)) + 1 by omega, fromL_go hl]; simp)
        clear hl
        go_wp2_with (first
          | (go_at_call 18; refine HG.out.mono ?_; rintro e w2 ⟨A2, n2, c2, rfl, g2, m2⟩; obtain ⟨q1, q2, q3⟩ := g2 v HL.out; have M2 := Lib.hid m2; have Q1 := Lib.hid q1; have Q2 := Lib.hid q2; have Q3 := Lib.hid q3; clear g2 m2 q1 q2 q3)
          | (at_builtin; refine push_bs rfl _ _ rfl (m := j) (l := R.map rowL) rfl (by have := (HO.out.nil M2.out).own; rw [HRJ.out] at this; exact this) rfl (by omega) (by have := HMW.out.size; have := M2.out.size; omega) ?_; intro v' w4 ho4 m4; have O4 := Lib.hid ho4; have M4 := Lib.hid m4; clear ho4 m4))
        obtain ⟨A5, c5, e5⟩ : ∃ A c, v' = .slice A (j + 1) c := by obtain ⟨A, c, e, _⟩ := own_slice O4.out; exact ⟨A, c, e⟩
        refine ⟨⟨k + 1, j + 1, R ++ [(A2, c2, v)], rfl, by simp [HRJ.out], by omega, by omega, Lib.hid (by rw [HN.out]; simp), Lib.hid ((HO.out.nil M2.out).push ⟨Q2.out, fun hne a ha => ⟨by have := (Q3.out hne a ha).1; have := HMW.out.size; omega, (Q3.out hne a ha).2⟩⟩ (by rw [HRJ.out]; have := Q1.out; subst this; exact O4.out) M4.out), Lib.hid ((HMW.out.trans M2.out).nil_trans M4.out (fun i h => (HO.out.own.lt i h).1))⟩, ?_⟩
        rw [e5]
        simp [lenV]
        omega
    · go_wp2_with fail
      go_ret
      obtain ⟨A9, c9, e9, hfr⟩ := HO.out.fromR (l := fromL L s M) (by rw [HF.out, show M - j = 0 by have := HM.out; omega]; simp [fromL])
      rw [HRJ.out] at e9 hfr
      injection e9 with e1 e2 e3
      subst e1
      subst e3
      exact ⟨A1, c1, j, R, rfl, hfr, HMW.out⟩
theorem LrS.from_ (h : LrS W0 W X b L T) (hT : T ≤ 1000) {s : Nat} (hs : s < 18446744073709551616) {most : Int} (hm : most ≤ 100000) (hm2 : -9223372036854775808 ≤ most) :
    Calls Try.prog 20 #[.pointer (some ⟨b, 0, none⟩), .int .u64 (s : Int), .int .i64 most] W fun e W' => ∃ A c n R, e = .returned (.slice A n c) ∧ FromR W' A c n R (fromL L s most.toNat) ∧ Mods Nil W W' :=
  h.from0 hs hm hm2
end
theorem lrn_from_nil (W : World) (x y : Int) : Calls Try.prog 20 #[.pointer none, .int .u64 x, .int .i64 y] W fun e W' => ∃ A c, e = .returned (.slice A 0 c) ∧ Mods Nil W W' := by
  go_enter Try.func20, Try.ntmps20
  go_wp2
  go_loopw [1, 7] (fun a b wr => a = .int .u64 x ∧ b = .slice none 0 0 ∧ wr = W) (fun _ _ _ => 0)
  case atStart => exact ⟨rfl, rfl, rfl⟩
  case round =>
    obtain ⟨rfl, rfl, rfl⟩ := hrel
    by_cases hy : 0 < y
    · go_wp2_with (go_at_call 18; refine (lrn_get_nil _ _).mono ?_; rintro e w2 ⟨v2, rfl, m2⟩; have M2 := Lib.hid m2; clear m2)
      go_ret
      exact ⟨_, _, rfl, M2.out⟩
    · go_wp2_with fail
      go_ret
      exact ⟨⟨none, 0, rfl⟩, Mods.refl _ _⟩
end Go.Proofs.Ytbpflkjodiaokaa
