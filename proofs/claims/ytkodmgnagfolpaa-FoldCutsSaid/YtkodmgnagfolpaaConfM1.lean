/- Texts laid as one: Conf2, Conf3, Conf4, Conf5. -/
import Derived.Test.YtkodmgnagfolpaaConf1
import Derived.Laws.BitsAllLaws
import Derived.Lib.Hide
import Derived.Test.YtkodmgnagfolpaaRef10a
import Derived.Test.YtkodmgnagfolpaaVec4

section
/- Package conf: what an op has: subject, ownFields, bounds, amount; in numbers: which fields, their bounds, their amounts. -/
namespace Go.Proofs.Ytkodmgnagfolpaa
set_option maxRecDepth 100000
open Go.RowKit
set_option linter.unusedVariables false
set_option linter.unusedSimpArgs false

/-- A command by value. -/
@[reducible] def CV (c : PC) (A : Option Addr) (n k : Nat) : Array Value := #[.int .i64 c.op, .int .u64 (c.client : Int), .int .u64 (c.seq : Int), .int .i64 c.shard, .int .i64 c.segs, .int .u64 (c.pos : Int), .slice A n k]
theorem cv_seven {w : World} {g : Nat} {t : TypeId} {a b c d e f x : Value} (h : Blk w g t #[a, b, c, d, e, f, x]) :
    w.cell? ⟨g, 0, none⟩ = some a ∧ w.cell? ⟨g, 1, none⟩ = some b ∧ w.cell? ⟨g, 2, none⟩ = some c ∧ w.cell? ⟨g, 3, none⟩ = some d ∧ w.cell? ⟨g, 4, none⟩ = some e ∧ w.cell? ⟨g, 5, none⟩ = some f ∧ w.cell? ⟨g, 6, none⟩ = some x :=
  ⟨by simpa using h.cell 0, by simpa using h.cell 1, by simpa using h.cell 2, by simpa using h.cell 3, by simpa using h.cell 4, by simpa using h.cell 5, by simpa using h.cell 6⟩

/-- A field, as a bit. -/
def fI : Nat → Int
  | 0 => 1
  | 1 => 2
  | 2 => 4
  | 3 => 8
  | 4 => 16
  | 5 => 32
  | _ => 64
theorem six_cases {p : Nat → Prop} (h0 : p 0) (h1 : p 1) (h2 : p 2) (h3 : p 3) (h4 : p 4) (h5 : p 5) : ∀ j, j < 6 → p j
  | 0, _ => h0
  | 1, _ => h1
  | 2, _ => h2
  | 3, _ => h3
  | 4, _ => h4
  | 5, _ => h5
  | j + 6, h => by omega
theorem fI_le : ∀ j, j < 6 → fI j ≤ 32 := six_cases (by decide) (by decide) (by decide) (by decide) (by decide) (by decide)
theorem fI_pos : ∀ j, j < 6 → 1 ≤ fI j := six_cases (by decide) (by decide) (by decide) (by decide) (by decide) (by decide)
theorem fI_succ : ∀ j, j < 6 → IntKind.u8.wrap (fI j * 2) = fI (j + 1) := six_cases (by decide) (by decide) (by decide) (by decide) (by decide) (by decide)
theorem fI_lt : ∀ j, j < 6 → fI j < fI (j + 1) := six_cases (by decide) (by decide) (by decide) (by decide) (by decide) (by decide)
theorem fI_32 : ∀ j, j < 5 → (fI j == 32) = false := fun j h => by
  have : ∀ j, j < 6 → j < 5 → (fI j == 32) = false := six_cases (by decide) (by decide) (by decide) (by decide) (by decide) (by decide)
  exact this j (by omega) h
/-- The fields of an op. -/
def ownM (op : Int) : Int := if op = 1 then 15 else if op = 2 then 39 else if op = 3 then 19 else if op = 4 then 32 else 0
def has (op : Int) (j : Nat) : Bool := (ownM op).toNat.testBit j
theorem op_cases {op : Int} {p : Int → Prop} (h1 : p 15) (h2 : p 39) (h3 : p 19) (h4 : p 32) (h0 : p 0) : p (ownM op) := by
  unfold ownM
  split
  · exact h1
  split
  · exact h2
  split
  · exact h3
  split
  · exact h4
  exact h0
theorem and_own (op : Int) : ∀ j, j < 6 → bits .and .u8 (ownM op) (fI j) = if has op j then fI j else 0 := by
  unfold has
  refine op_cases (op := op) (p := fun M => ∀ j, j < 6 → bits .and .u8 M (fI j) = if M.toNat.testBit j then fI j else 0) ?_ ?_ ?_ ?_ ?_
  all_goals exact six_cases (by decide) (by decide) (by decide) (by decide) (by decide) (by decide)
/-- The bounds of a field that an op has. -/
def bLo (j : Nat) : Nat := if j = 3 then 1 else 0
def bHi (j : Nat) : Nat := if j = 2 then 7 else if j = 3 then 4 else if j = 5 then 8 else 18446744073709551615
def lo (op : Int) (j : Nat) : Nat := if has op j then bLo j else 0
def hi (op : Int) (j : Nat) : Nat := if has op j then bHi j else 0
/-- A field's amount. -/
def amt (c : PC) (n j : Nat) : Nat :=
  if j = 0 then c.client else if j = 1 then c.seq else if j = 2 then (c.shard % 18446744073709551616).toNat else if j = 3 then (c.segs % 18446744073709551616).toNat else if j = 4 then c.pos else n
theorem wrap64 (x : Int) : IntKind.u64.wrap x = (((x % 18446744073709551616).toNat : Nat) : Int) := by rw [IntKind.wrap_u64]; omega

theorem subject_any (w : World) (op : Int) : Calls Try.prog 55 #[.int .i64 op] w fun e w' => e = .returned (.int .u8 (if op = 1 then 8 else if op = 3 then 16 else if op = 2 ∨ op = 4 then 32 else 0)) ∧ w = w' := by
  by_cases h1 : op = 1
  · subst h1
    go_enter Try.func55, Try.ntmps55
    go_wp2
    go_ret
    exact ⟨rfl, rfl⟩
  by_cases h2 : op = 2
  · subst h2
    go_enter Try.func55, Try.ntmps55
    go_wp2
    go_ret
    exact ⟨rfl, rfl⟩
  by_cases h3 : op = 3
  · subst h3
    go_enter Try.func55, Try.ntmps55
    go_wp2
    go_ret
    exact ⟨rfl, rfl⟩
  by_cases h4 : op = 4
  · subst h4
    go_enter Try.func55, Try.ntmps55
    go_wp2
    go_ret
    exact ⟨rfl, rfl⟩
  have e1 : (op == 1) = false := by rw [beq_eq_false_iff_ne]; exact h1
  have e2 : (op == 2) = false := by rw [beq_eq_false_iff_ne]; exact h2
  have e3 : (op == 3) = false := by rw [beq_eq_false_iff_ne]; exact h3
  have e4 : (op == 4) = false := by rw [beq_eq_false_iff_ne]; exact h4
  rw [if_neg h1, if_neg h3, if_neg (by omega)]
  go_enter Try.func55, Try.ntmps55
  go_wp2
  go_ret
  exact ⟨rfl, rfl⟩
theorem ownF_any (w : World) (op : Int) : Calls Try.prog 44 #[.int .i64 op] w fun e w' => e = .returned (.int .u8 (ownM op)) ∧ w = w' := by
  have HS := Lib.hid (subject_any w op)
  by_cases h1 : op = 1
  · subst h1
    go_enter Try.func44, Try.ntmps44
    go_wp2_with (go_at_call 55; refine (HS.out).mono ?_; rintro e w' ⟨rfl, rfl⟩; dsimp only [if_true])
    go_ret
    exact ⟨rfl, rfl⟩
  by_cases h2 : op = 2
  · subst h2
    go_enter Try.func44, Try.ntmps44
    go_wp2_with (go_at_call 55; refine (HS.out).mono ?_; rintro e w' ⟨rfl, rfl⟩)
    go_ret
    exact ⟨rfl, rfl⟩
  by_cases h3 : op = 3
  · subst h3
    go_enter Try.func44, Try.ntmps44
    go_wp2_with (go_at_call 55; refine (HS.out).mono ?_; rintro e w' ⟨rfl, rfl⟩)
    go_ret
    exact ⟨rfl, rfl⟩
  by_cases h4 : op = 4
  · subst h4
    go_enter Try.func44, Try.ntmps44
    go_wp2_with (go_at_call 55; refine (HS.out).mono ?_; rintro e w' ⟨rfl, rfl⟩)
    go_ret
    exact ⟨rfl, rfl⟩
  have e1 : (op == 1) = false := by rw [beq_eq_false_iff_ne]; exact h1
  have e2 : (op == 2) = false := by rw [beq_eq_false_iff_ne]; exact h2
  have e3 : (op == 3) = false := by rw [beq_eq_false_iff_ne]; exact h3
  have e4 : (op == 4) = false := by rw [beq_eq_false_iff_ne]; exact h4
  rw [show ownM op = 0 by unfold ownM; rw [if_neg h1, if_neg h2, if_neg h3, if_neg h4]]
  rw [if_neg h1, if_neg h3, if_neg (by omega)] at HS
  go_enter Try.func44, Try.ntmps44
  go_wp2_with (go_at_call 55; refine (HS.out).mono ?_; rintro e w' ⟨rfl, rfl⟩)
  go_ret
  exact ⟨rfl, rfl⟩
theorem bounds_any (w : World) : ∀ j, j < 6 → Calls Try.prog 45 #[.int .u8 (fI j)] w fun e w' => e = .returned (.tuple #[.int .u64 (bLo j : Nat), .int .u64 (bHi j : Nat)]) ∧ w = w' := by
  refine six_cases ?_ ?_ ?_ ?_ ?_ ?_
  all_goals
    dsimp only [fI]
    go_enter Try.func45, Try.ntmps45
    go_wp2
    go_ret2
    exact ⟨rfl, rfl⟩
theorem amount_any (w : World) (c : PC) (A : Option Addr) {n k : Nat} (hn : n ≤ 9223372036854775807) : ∀ j, j < 6 → Calls Try.prog 46 #[.agg (CV c A n k), .int .u8 (fI j)] w fun e w' => e = .returned (.int .u64 (amt c n j : Nat)) ∧ Mods Nil w w' := by
  have h1 := wrap64 c.shard
  have h2 := wrap64 c.segs
  obtain ⟨x, hx⟩ : ∃ x : Nat, (c.shard % 18446744073709551616).toNat = x := ⟨_, rfl⟩
  obtain ⟨y, hy⟩ : ∃ y : Nat, (c.segs % 18446744073709551616).toNat = y := ⟨_, rfl⟩
  rw [hx] at h1
  rw [hy] at h2
  have HX := Lib.hid hx
  have HY := Lib.hid hy
  clear hx hy
  have h3 : IntKind.u64.wrap (n : Int) = (n : Int) := (IntKind.wrap_u64 (n : Int)).trans (by omega)
  obtain ⟨d0, d1, d2, d3, d4, d5, d6⟩ := cv_seven (Blk.new w 30 (CV c A n k))
  refine six_cases ?_ ?_ ?_ ?_ ?_ ?_
  · dsimp only [fI]
    go_enter Try.func46, Try.ntmps46
    go_wp2
    go_ret
    exact ⟨rfl, (Mods.refl _ _).alloc _⟩
  · dsimp only [fI]
    go_enter Try.func46, Try.ntmps46
    go_wp2
    go_ret
    exact ⟨rfl, (Mods.refl _ _).alloc _⟩
  · dsimp only [fI]
    go_enter Try.func46, Try.ntmps46
    go_wp2
    go_ret
    exact ⟨by show Ending.returned (Value.int .u64 (x : Int)) = _; rw [← HX.out]; rfl, (Mods.refl _ _).alloc _⟩
  · dsimp only [fI]
    go_enter Try.func46, Try.ntmps46
    go_wp2
    go_ret
    exact ⟨by show Ending.returned (Value.int .u64 (y : Int)) = _; rw [← HY.out]; rfl, (Mods.refl _ _).alloc _⟩
  · dsimp only [fI]
    go_enter Try.func46, Try.ntmps46
    go_wp2
    go_ret
    exact ⟨rfl, (Mods.refl _ _).alloc _⟩
  · dsimp only [fI]
    go_enter Try.func46, Try.ntmps46
    go_wp2
    go_ret
    exact ⟨rfl, (Mods.refl _ _).alloc _⟩
end Go.Proofs.Ytkodmgnagfolpaa
end

section
/- Package conf: fieldsMayBe; Check's answer in terms of fields. -/
namespace Go.Proofs.Ytkodmgnagfolpaa
set_option maxRecDepth 100000
open Go.RowKit
set_option linter.unusedVariables false
set_option linter.unusedSimpArgs false

/-- A field is within its bounds. -/
def okF (c : PC) (n j : Nat) : Prop := lo c.op j ≤ amt c n j ∧ amt c n j ≤ hi c.op j
instance (c : PC) (n j : Nat) : Decidable (okF c n j) := by unfold okF; infer_instance
def fldsB (c : PC) (n : Nat) : Bool := decide (okF c n 0 ∧ okF c n 1 ∧ okF c n 2 ∧ okF c n 3 ∧ okF c n 4 ∧ okF c n 5)
theorem fldsB_yes {c : PC} {n : Nat} (h : ∀ j, j < 6 → okF c n j) : fldsB c n = true := by
  unfold fldsB
  simp [h 0, h 1, h 2, h 3, h 4, h 5]
theorem fldsB_no {c : PC} {n j : Nat} (hj : j < 6) (h : ¬ okF c n j) : fldsB c n = false := by
  unfold fldsB
  rw [decide_eq_false_iff_not]
  rintro ⟨h0, h1, h2, h3, h4, h5⟩
  exact h (six_cases (p := fun j => okF c n j) h0 h1 h2 h3 h4 h5 j hj)
def sealB (s : Int) : List PW → Bool
  | [] => true
  | r :: l => decide (r.shard = s) && sealB s l
theorem sealB_len {s : Int} : ∀ {l : List PW} {b : Int}, rowsB l b = true → sealB s l = true → l.length ≤ 1
  | [], _, _, _ => by simp
  | [r], _, _, _ => by simp
  | r :: q :: l, b, h, h2 => by
    simp only [rowsB, sealB, Bool.and_eq_true, rowB, decide_eq_true_eq] at h h2
    omega
theorem sealB_iff {s : Int} {l : List PW} (h : rowsB l (-1) = true) : sealB s l = true ↔ (l.length = 0 ∨ (l.length = 1 ∧ (l.headD {}).shard = s)) := by
  constructor
  · intro h2
    have := sealB_len h h2
    match l, h2 with
    | [], _ => simp
    | [r], h2 => simp [sealB] at h2; simp [h2]
    | r :: q :: l, _ => simp at this
  · intro h2
    match l, h2 with
    | [], _ => rfl
    | [r], h2 => simp at h2; simp [sealB, h2]
    | r :: q :: l, h2 => simp at h2
theorem chk_fields {c : PC} (hok : c.ok) : chkC c = if (0 ≤ c.op ∧ c.op ≤ 4) ∧ fldsB c c.rows.length = true ∧ rowsB c.rows (-1) = true ∧ (c.op = 2 → sealB c.shard c.rows = true) then 0 else 1 := by
  unfold chkC
  by_cases hr : rowsB c.rows (-1) = true
  · have h8 := rowsB_8 hr
    have hs := hok.shard
    have hg := hok.segs
    have hc := hok.client
    have hq := hok.seq
    have hp := hok.pos
    obtain ⟨op, client, seq, shard, segs, pos, rows⟩ := c
    dsimp only at *
    have m1 : ((shard % 18446744073709551616).toNat = 0 ↔ shard = 0) ∧ ((shard % 18446744073709551616).toNat ≤ 7 ↔ 0 ≤ shard ∧ shard ≤ 7) := by omega
    have m2 : ((segs % 18446744073709551616).toNat = 0 ↔ segs = 0) ∧ ((1 ≤ (segs % 18446744073709551616).toNat ∧ (segs % 18446744073709551616).toNat ≤ 4) ↔ 1 ≤ segs ∧ segs ≤ 4) := by omega
    suffices key : (rowsB rows (-1) = true ∧ opB ⟨op, client, seq, shard, segs, pos, rows⟩ = true) ↔ ((0 ≤ op ∧ op ≤ 4) ∧ fldsB ⟨op, client, seq, shard, segs, pos, rows⟩ rows.length = true ∧ rowsB rows (-1) = true ∧ (op = 2 → sealB shard rows = true)) by
      by_cases h : rowsB rows (-1) = true ∧ opB ⟨op, client, seq, shard, segs, pos, rows⟩ = true
      · rw [if_pos h, if_pos (key.1 h)]
      · rw [if_neg h, if_neg (fun g => h (key.2 g))]
    simp only [hr, true_and]
    by_cases h0 : op = 0
    · subst h0
      have l0 : lo 0 0 = 0 ∧ hi 0 0 = 0 := by decide
      have l1 : lo 0 1 = 0 ∧ hi 0 1 = 0 := by decide
      have l2 : lo 0 2 = 0 ∧ hi 0 2 = 0 := by decide
      have l3 : lo 0 3 = 0 ∧ hi 0 3 = 0 := by decide
      have l4 : lo 0 4 = 0 ∧ hi 0 4 = 0 := by decide
      have l5 : lo 0 5 = 0 ∧ hi 0 5 = 0 := by decide
      simp only [opB, if_true, if_false, decide_eq_true_eq, fldsB, okF, l0.1, l0.2, l1.1, l1.2, l2.1, l2.2, l3.1, l3.2, l4.1, l4.2, l5.1, l5.2]
      simp only [amt, if_true, show ¬ (1 : Nat) = 0 by omega, show ¬ (2 : Nat) = 0 by omega, show ¬ (2 : Nat) = 1 by omega, show ¬ (3 : Nat) = 0 by omega, show ¬ (3 : Nat) = 1 by omega, show ¬ (3 : Nat) = 2 by omega, show ¬ (4 : Nat) = 0 by omega, show ¬ (4 : Nat) = 1 by omega, show ¬ (4 : Nat) = 2 by omega, show ¬ (4 : Nat) = 3 by omega, show ¬ (5 : Nat) = 0 by omega, show ¬ (5 : Nat) = 1 by omega, show ¬ (5 : Nat) = 2 by omega, show ¬ (5 : Nat) = 3 by omega, show ¬ (5 : Nat) = 4 by omega, if_false]
      try simp only [true_implies, false_implies, and_true]
      generalize rows.length = R at h8 ⊢
      try generalize sealB shard rows = Q
      generalize (shard % 18446744073709551616).toNat = S at m1 ⊢
      generalize (segs % 18446744073709551616).toNat = G at m2 ⊢
      omega
    by_cases h1 : op = 1
    · subst h1
      have l0 : lo 1 0 = 0 ∧ hi 1 0 = 18446744073709551615 := by decide
      have l1 : lo 1 1 = 0 ∧ hi 1 1 = 18446744073709551615 := by decide
      have l2 : lo 1 2 = 0 ∧ hi 1 2 = 7 := by decide
      have l3 : lo 1 3 = 1 ∧ hi 1 3 = 4 := by decide
      have l4 : lo 1 4 = 0 ∧ hi 1 4 = 0 := by decide
      have l5 : lo 1 5 = 0 ∧ hi 1 5 = 0 := by decide
      simp only [opB, if_true, show ¬ (1 : Int) = 0 by omega, if_false, decide_eq_true_eq, fldsB, okF, l0.1, l0.2, l1.1, l1.2, l2.1, l2.2, l3.1, l3.2, l4.1, l4.2, l5.1, l5.2]
      simp only [amt, if_true, show ¬ (1 : Nat) = 0 by omega, show ¬ (2 : Nat) = 0 by omega, show ¬ (2 : Nat) = 1 by omega, show ¬ (3 : Nat) = 0 by omega, show ¬ (3 : Nat) = 1 by omega, show ¬ (3 : Nat) = 2 by omega, show ¬ (4 : Nat) = 0 by omega, show ¬ (4 : Nat) = 1 by omega, show ¬ (4 : Nat) = 2 by omega, show ¬ (4 : Nat) = 3 by omega, show ¬ (5 : Nat) = 0 by omega, show ¬ (5 : Nat) = 1 by omega, show ¬ (5 : Nat) = 2 by omega, show ¬ (5 : Nat) = 3 by omega, show ¬ (5 : Nat) = 4 by omega, if_false]
      try simp only [true_implies, false_implies, and_true]
      generalize rows.length = R at h8 ⊢
      try generalize sealB shard rows = Q
      generalize (shard % 18446744073709551616).toNat = S at m1 ⊢
      generalize (segs % 18446744073709551616).toNat = G at m2 ⊢
      omega
    by_cases h2 : op = 2
    · subst h2
      have l0 : lo 2 0 = 0 ∧ hi 2 0 = 18446744073709551615 := by decide
      have l1 : lo 2 1 = 0 ∧ hi 2 1 = 18446744073709551615 := by decide
      have l2 : lo 2 2 = 0 ∧ hi 2 2 = 7 := by decide
      have l3 : lo 2 3 = 0 ∧ hi 2 3 = 0 := by decide
      have l4 : lo 2 4 = 0 ∧ hi 2 4 = 0 := by decide
      have l5 : lo 2 5 = 0 ∧ hi 2 5 = 8 := by decide
      simp only [opB, if_true, show ¬ (2 : Int) = 0 by omega, show ¬ (2 : Int) = 1 by omega, if_false, decide_eq_true_eq, fldsB, okF, l0.1, l0.2, l1.1, l1.2, l2.1, l2.2, l3.1, l3.2, l4.1, l4.2, l5.1, l5.2]
      simp only [amt, if_true, show ¬ (1 : Nat) = 0 by omega, show ¬ (2 : Nat) = 0 by omega, show ¬ (2 : Nat) = 1 by omega, show ¬ (3 : Nat) = 0 by omega, show ¬ (3 : Nat) = 1 by omega, show ¬ (3 : Nat) = 2 by omega, show ¬ (4 : Nat) = 0 by omega, show ¬ (4 : Nat) = 1 by omega, show ¬ (4 : Nat) = 2 by omega, show ¬ (4 : Nat) = 3 by omega, show ¬ (5 : Nat) = 0 by omega, show ¬ (5 : Nat) = 1 by omega, show ¬ (5 : Nat) = 2 by omega, show ¬ (5 : Nat) = 3 by omega, show ¬ (5 : Nat) = 4 by omega, if_false]
      rw [sealB_iff hr]
      try simp only [true_implies, false_implies, and_true]
      generalize rows.length = R at h8 ⊢
      try generalize sealB shard rows = Q
      generalize (shard % 18446744073709551616).toNat = S at m1 ⊢
      generalize (segs % 18446744073709551616).toNat = G at m2 ⊢
      generalize (rows.headD {}).shard = H
      omega
    by_cases h3 : op = 3
    · subst h3
      have l0 : lo 3 0 = 0 ∧ hi 3 0 = 18446744073709551615 := by decide
      have l1 : lo 3 1 = 0 ∧ hi 3 1 = 18446744073709551615 := by decide
      have l2 : lo 3 2 = 0 ∧ hi 3 2 = 0 := by decide
      have l3 : lo 3 3 = 0 ∧ hi 3 3 = 0 := by decide
      have l4 : lo 3 4 = 0 ∧ hi 3 4 = 18446744073709551615 := by decide
      have l5 : lo 3 5 = 0 ∧ hi 3 5 = 0 := by decide
      simp only [opB, if_true, show ¬ (3 : Int) = 0 by omega, show ¬ (3 : Int) = 1 by omega, show ¬ (3 : Int) = 2 by omega, if_false, decide_eq_true_eq, fldsB, okF, l0.1, l0.2, l1.1, l1.2, l2.1, l2.2, l3.1, l3.2, l4.1, l4.2, l5.1, l5.2]
      simp only [amt, if_true, show ¬ (1 : Nat) = 0 by omega, show ¬ (2 : Nat) = 0 by omega, show ¬ (2 : Nat) = 1 by omega, show ¬ (3 : Nat) = 0 by omega, show ¬ (3 : Nat) = 1 by omega, show ¬ (3 : Nat) = 2 by omega, show ¬ (4 : Nat) = 0 by omega, show ¬ (4 : Nat) = 1 by omega, show ¬ (4 : Nat) = 2 by omega, show ¬ (4 : Nat) = 3 by omega, show ¬ (5 : Nat) = 0 by omega, show ¬ (5 : Nat) = 1 by omega, show ¬ (5 : Nat) = 2 by omega, show ¬ (5 : Nat) = 3 by omega, show ¬ (5 : Nat) = 4 by omega, if_false]
      try simp only [true_implies, false_implies, and_true]
      generalize rows.length = R at h8 ⊢
      try generalize sealB shard rows = Q
      generalize (shard % 18446744073709551616).toNat = S at m1 ⊢
      generalize (segs % 18446744073709551616).toNat = G at m2 ⊢
      omega
    by_cases h4 : op = 4
    · subst h4
      have l0 : lo 4 0 = 0 ∧ hi 4 0 = 0 := by decide
      have l1 : lo 4 1 = 0 ∧ hi 4 1 = 0 := by decide
      have l2 : lo 4 2 = 0 ∧ hi 4 2 = 0 := by decide
      have l3 : lo 4 3 = 0 ∧ hi 4 3 = 0 := by decide
      have l4 : lo 4 4 = 0 ∧ hi 4 4 = 0 := by decide
      have l5 : lo 4 5 = 0 ∧ hi 4 5 = 8 := by decide
      simp only [opB, if_true, show ¬ (4 : Int) = 0 by omega, show ¬ (4 : Int) = 1 by omega, show ¬ (4 : Int) = 2 by omega, show ¬ (4 : Int) = 3 by omega, if_false, decide_eq_true_eq, fldsB, okF, l0.1, l0.2, l1.1, l1.2, l2.1, l2.2, l3.1, l3.2, l4.1, l4.2, l5.1, l5.2]
      simp only [amt, if_true, show ¬ (1 : Nat) = 0 by omega, show ¬ (2 : Nat) = 0 by omega, show ¬ (2 : Nat) = 1 by omega, show ¬ (3 : Nat) = 0 by omega, show ¬ (3 : Nat) = 1 by omega, show ¬ (3 : Nat) = 2 by omega, show ¬ (4 : Nat) = 0 by omega, show ¬ (4 : Nat) = 1 by omega, show ¬ (4 : Nat) = 2 by omega, show ¬ (4 : Nat) = 3 by omega, show ¬ (5 : Nat) = 0 by omega, show ¬ (5 : Nat) = 1 by omega, show ¬ (5 : Nat) = 2 by omega, show ¬ (5 : Nat) = 3 by omega, show ¬ (5 : Nat) = 4 by omega, if_false]
      try simp only [true_implies, false_implies, and_true]
      generalize rows.length = R at h8 ⊢
      try generalize sealB shard rows = Q
      generalize (shard % 18446744073709551616).toNat = S at m1 ⊢
      generalize (segs % 18446744073709551616).toNat = G at m2 ⊢
      omega
    have hno : ¬ (0 ≤ op ∧ op ≤ 4) := by omega
    simp [opB, h0, h1, h2, h3, h4]
    omega
  · rw [if_neg (fun h => hr h.1), if_neg (fun h => hr h.2.2.1)]

set_option maxHeartbeats 3200000 in
theorem fields_any (w : World) (c : PC) (A : Option Addr) {n k : Nat} (hn : n ≤ 9223372036854775807) : Calls Try.prog 33 #[.agg (CV c A n k)] w fun e w' => e = .returned (.bool (fldsB c n)) ∧ Mods Nil w w' := by
  have AB := Lib.hid (Blk.new w 30 (CV c A n k))
  have MM := Lib.hid ((Mods.refl Nil w).alloc (.cells (CV c A n k) 30))
  obtain ⟨d0, d1, d2, d3, d4, d5, d6⟩ := cv_seven AB.out
  obtain ⟨fb, hfb⟩ : ∃ fb, fldsB c n = fb := ⟨_, rfl⟩
  rw [hfb]
  have HFB := Lib.hid hfb
  clear hfb
  go_enter Try.func33, Try.ntmps33
  go_wp2_with (go_at_call 44; refine (ownF_any _ _).mono ?_; rintro e w' ⟨rfl, rfl⟩)
  clear d0 d1 d2 d3 d4 d5 d6
  go_loopw [4] (fun x wr => ∃ j : Nat, j ≤ 6 ∧ x = .int .u8 (fI j) ∧ (∀ i, i < j → okF c n i) ∧ Mods Nil (w.alloc (.cells (CV c A n k) 30)) wr) (fun x _ => 64 - (intOf x).toNat)
  case atStart => exact ⟨0, Nat.zero_le _, rfl, fun i h => by omega, Mods.refl _ _⟩
  case round =>
    obtain ⟨j, hj, rfl, ho, hm⟩ := hrel
    have HO := Lib.hid ho
    have HM := Lib.hid hm
    obtain ⟨d0, d1, d2, d3, d4, d5, d6⟩ := cv_seven (AB.out.mods hm (fun h => h))
    clear ho hm
    by_cases hlt : j < 6
    · have hle := fI_le j hlt
      have hps := fI_pos j hlt
      have hsu := fI_succ j hlt
      have hlt2 := fI_lt j hlt
      have hand := and_own c.op j hlt
      have HA := Lib.hid (fun W => amount_any W c A (k := k) hn j hlt)
      have HB := Lib.hid (fun W => bounds_any W j hlt)
      have HF := Lib.hid (show okF c n j ↔ lo c.op j ≤ amt c n j ∧ amt c n j ≤ hi c.op j from Iff.rfl)
      have HL := Lib.hid (show lo c.op j = if has c.op j then bLo j else 0 from rfl)
      have HH := Lib.hid (show hi c.op j = if has c.op j then bHi j else 0 from rfl)
      obtain ⟨x, hx⟩ : ∃ x, amt c n j = x := ⟨_, rfl⟩
      obtain ⟨F, hFI⟩ : ∃ F, fI j = F := ⟨_, rfl⟩
      obtain ⟨F', hFI'⟩ : ∃ F, fI (j + 1) = F := ⟨_, rfl⟩
      rw [hx] at HA HF
      rw [hFI] at hle hps hsu hand HA HB hlt2 ⊢
      rw [hFI'] at hsu hlt2
      have HFI' := Lib.hid hFI'
      clear hx hFI hFI'
      by_cases hh : has c.op j = true
      · rw [if_pos hh] at hand
        have hne : (F != 0) = true := by simp; omega
        rw [if_pos hh] at HL HH
        rw [HL.out, HH.out] at HF
        generalize bLo j = a at HB HF
        generalize bHi j = b at HB HF
        clear hh HL HH
        by_cases h1 : x < a
        · have hno := fldsB_no hlt (fun h => by have := HF.out.1 h; omega)
          obtain rfl : fb = false := by rw [← HFB.out]; exact hno
          have h1I : (x : Int) < (a : Int) := by omega
          clear hno HF HO HFB
          go_wp2_with (first
            | (go_at_call 45; refine (HB.out _).mono ?_; rintro e w' ⟨rfl, rfl⟩)
            | (go_at_call 46; refine (HA.out _).mono ?_; rintro e w6 ⟨rfl, m6⟩; have M6 := Lib.hid m6; clear m6))
          go_ret
          exact ⟨rfl, MM.out.trans (HM.out.trans M6.out)⟩
        · have h1I : (a : Int) ≤ (x : Int) := by omega
          by_cases h2 : b < x
          · have hno := fldsB_no hlt (fun h => by have := HF.out.1 h; omega)
            obtain rfl : fb = false := by rw [← HFB.out]; exact hno
            have h2I : (b : Int) < (x : Int) := by omega
            clear hno HF HO HFB
            go_wp2_with (first
              | (go_at_call 45; refine (HB.out _).mono ?_; rintro e w' ⟨rfl, rfl⟩)
              | (go_at_call 46; refine (HA.out _).mono ?_; rintro e w6 ⟨rfl, m6⟩; have M6 := Lib.hid m6; clear m6))
            go_ret
            exact ⟨rfl, MM.out.trans (HM.out.trans M6.out)⟩
          · have h2I : (x : Int) ≤ (b : Int) := by omega
            have hyes := Lib.hid (HF.out.2 ⟨by omega, by omega⟩)
            clear HF
            go_wp2_with (first
              | (go_at_call 45; refine (HB.out _).mono ?_; rintro e w' ⟨rfl, rfl⟩)
              | (go_at_call 46; refine (HA.out _).mono ?_; rintro e w6 ⟨rfl, m6⟩; have M6 := Lib.hid m6; clear m6))
            exact ⟨⟨j + 1, by omega, by rw [HFI'.out], fun i hi => (by by_cases e : i = j; exact e ▸ hyes.out; exact HO.out i (by omega)), HM.out.trans M6.out⟩, by simp only [intOf]; omega⟩
      · rw [if_neg hh] at hand
        rw [if_neg hh] at HL HH
        rw [HL.out, HH.out] at HF
        clear hh HL HH HB
        by_cases h2 : 0 < x
        · have hno := fldsB_no hlt (fun h => by have := HF.out.1 h; omega)
          obtain rfl : fb = false := by rw [← HFB.out]; exact hno
          have h2I : (0 : Int) < (x : Int) := by omega
          clear hno HF HO HFB
          go_wp2_with (first
            | (go_at_call 46; refine (HA.out _).mono ?_; rintro e w6 ⟨rfl, m6⟩; have M6 := Lib.hid m6; clear m6))
          go_ret
          exact ⟨rfl, MM.out.trans (HM.out.trans M6.out)⟩
        · obtain rfl : x = 0 := by omega
          have hyes := Lib.hid (HF.out.2 ⟨by omega, by omega⟩)
          clear HF
          go_wp2_with (first
            | (go_at_call 46; refine (HA.out _).mono ?_; rintro e w6 ⟨rfl, m6⟩; have M6 := Lib.hid m6; clear m6))
          exact ⟨⟨j + 1, by omega, by rw [HFI'.out], fun i hi => (by by_cases e : i = j; exact e ▸ hyes.out; exact HO.out i (by omega)), HM.out.trans M6.out⟩, by simp only [intOf]; omega⟩
    · obtain rfl : j = 6 := by omega
      have e6 : fI 6 = 64 := rfl
      obtain rfl : fb = true := by rw [← HFB.out]; exact fldsB_yes HO.out
      clear HFB
      go_wp2_with fail
      go_ret
      exact ⟨rfl, MM.out.trans HM.out⟩
end Go.Proofs.Ytkodmgnagfolpaa
end

section
/- Package conf: lensMayBe, rowsMayBe, sealed. -/
namespace Go.Proofs.Ytkodmgnagfolpaa
set_option maxRecDepth 100000
open Go.RowKit
set_option linter.unusedVariables false
set_option linter.unusedSimpArgs false

def lensB (xs : List Nat) : Bool := decide (xs.length ≤ 4 ∧ (xs.length = 0 ∨ xs.getLastD 0 ≠ 0))
theorem clen_last_iff (xs : List Nat) : clen xs = xs.length ↔ (xs.length = 0 ∨ xs.getLastD 0 ≠ 0) := by
  constructor
  · intro h
    by_cases h0 : xs.length = 0
    · exact .inl h0
    · obtain ⟨k, hk⟩ : ∃ k, xs.length = k + 1 := ⟨xs.length - 1, by omega⟩
      right
      rw [last_vat hk]
      exact clen_last xs k (by omega)
  · intro h
    refine (clen_of (Nat.le_refl _) (fun i hi => vat_ge hi) ?_).symm
    rcases h with h | h
    · exact .inl h
    · by_cases h0 : xs.length = 0
      · exact .inl h0
      · obtain ⟨k, hk⟩ : ∃ k, xs.length = k + 1 := ⟨xs.length - 1, by omega⟩
        right
        rw [last_vat hk] at h
        rw [hk]
        exact h
theorem rowB_lens (s b : Int) (xs : List Nat) : rowB ⟨s, xs⟩ b = (decide (b < s) && decide (s ≤ 7) && lensB xs) := by
  unfold rowB lensB
  simp only [← Bool.decide_and, and_assoc]
set_option maxHeartbeats 1600000 in
theorem lens_any (w : World) {A : Option Addr} {c n : Nat} {xs : List Nat} (hn : xs.length = n) (hs : Sl w A c (nums xs)) :
    Calls Try.prog 47 #[.slice A n c] w fun e w' => e = .returned (.bool (lensB xs)) ∧ Mods Nil w w' := by
  have HE := Lib.hid (clen_last_iff xs)
  have HD := Lib.hid (show lensB xs = decide (xs.length ≤ 4 ∧ (xs.length = 0 ∨ xs.getLastD 0 ≠ 0)) from rfl)
  generalize lensB xs = b at HD ⊢
  have HN := Lib.hid hn
  by_cases h4 : n ≤ 4
  · have HC := Lib.hid (vcut_any w hn (by omega) hs)
    have HCL := Lib.hid (cut_length xs)
    have h4I : (n : Int) ≤ 4 := by omega
    obtain ⟨m, hm⟩ : ∃ m, (cut xs).length = m := ⟨_, rfl⟩
    rw [hm] at HC HCL
    have HB : Hid (b = ((m : Int) == (n : Int))) := Lib.hid (by
      rw [HD.out]
      by_cases e : m = n
      · have h1 := HE.out.1 (by rw [HN.out, ← HCL.out]; exact e)
        subst e
        rw [decide_eq_true (⟨by rw [HN.out]; exact h4, h1⟩ : xs.length ≤ 4 ∧ _)]
        simp
      · have h1 : ¬ (xs.length ≤ 4 ∧ (xs.length = 0 ∨ xs.getLastD 0 ≠ 0)) := fun h => e (by rw [HCL.out, ← HN.out]; exact HE.out.2 h.2)
        rw [decide_eq_false h1]
        have : ((m : Int) == (n : Int)) = false := by rw [beq_eq_false_iff_ne]; omega
        rw [this])
    clear hm hn hs HE HD HCL
    go_enter Try.func47, Try.ntmps47
    go_wp2_with (go_at_call 30; refine (HC.out).mono ?_; rintro e w1 ⟨v1, rfl, o1, m1⟩; obtain ⟨A0, c0, rfl, -, s0, b0⟩ := own_slice o1; have M1 := Lib.hid m1; clear m1 o1 s0 b0)
    go_ret
    exact ⟨by rw [HB.out]; rfl, M1.out⟩
  · have h4I : (4 : Int) < (n : Int) := by omega
    obtain rfl : b = false := by rw [HD.out, HN.out]; simp [h4]
    clear HD HE hs hn h4
    go_enter Try.func47, Try.ntmps47
    go_wp2_with fail
    go_ret
    exact ⟨rfl, Mods.refl _ _⟩

set_option maxHeartbeats 3200000 in
theorem rowsMay_any (w : World) {A : Option Addr} {n c : Nat} {L : List RowP} (h : Rws w A n c L) :
    Calls Try.prog 34 #[.slice A n c] w fun e w' => e = .returned (.bool (rowsB (pws L) (-1))) ∧ Mods Nil w w' := by
  have HL := Lib.hid h
  have HN := Lib.hid h.len
  have hmax := h.most
  have hle := h.le
  have hn47 : n ≤ 9223372036854775807 := by unfold maxLen at hmax; omega
  clear hle hmax h
  obtain ⟨rb, hrb⟩ : ∃ rb, rowsB (pws L) (-1) = rb := ⟨_, rfl⟩
  rw [hrb]
  have HRB := Lib.hid hrb
  clear hrb
  go_enter Try.func34, Try.ntmps34
  go_wp2_with fail
  go_loopw [3, 8] (fun p x wr => ∃ (j : Nat) (b : Int), j ≤ n ∧ x = .int .i64 (j : Int) ∧ p = .int .i64 b ∧ rowsB (pws L) (-1) = rowsB ((pws L).drop j) b ∧ Mods Nil w wr) (fun _ x _ => n - (intOf x).toNat)
  case atStart => exact ⟨0, -1, Nat.zero_le _, rfl, rfl, by simp, Mods.refl _ _⟩
  case round =>
    obtain ⟨j, b, hj, rfl, rfl, hr, hm⟩ := hrel
    have HM := Lib.hid hm
    have HRR := Lib.hid hr
    clear hm hr
    by_cases hlt : j < n
    · have hjI : (j : Int) < (n : Int) := by omega
      obtain ⟨g, off, q, rfl, hg, hq, hc0, hc1, hs, hx, -⟩ := Rws.at_ (HL.out.mods HM.out) hlt
      have hqp : (pws L)[j]? = some q.pw := by simp [pws, hq]
      have hst : rowsB ((pws L).drop j) b = (rowB ⟨q.shard, q.lens⟩ b && rowsB ((pws L).drop (j + 1)) q.shard) := by
        obtain ⟨hj, e⟩ := List.getElem?_eq_some_iff.1 hqp
        rw [List.drop_eq_getElem_cons hj, e]; rfl
      rw [rowB_lens] at hst
      obtain ⟨lb, hlb⟩ : ∃ lb, lensB q.lens = lb := ⟨_, rfl⟩
      rw [hlb] at hst
      have HLM : Hid (∀ W, Mods Nil wr W → Calls Try.prog 47 #[.slice q.A q.lens.length q.cap] W fun e w' => e = .returned (.bool lb) ∧ Mods Nil W w') := Lib.hid (fun W hW => hlb ▸ lens_any W rfl (hs.mods hW (fun _ _ h => h)))
      have HST := Lib.hid hst
      generalize q.lens.length = m at hc1 HLM
      generalize q.A = A2 at hc1 HLM
      generalize q.cap = c2 at hc1 HLM
      generalize q.shard = s at hc0 HST
      rw [← Nat.add_assoc] at hc1
      clear hs hx hq hqp hst hlb
      have HSTORE : Hid True := Lib.hid trivial
      by_cases h1 : s ≤ b
      · obtain rfl : rb = false := by rw [← HRB.out, HRR.out, HST.out]; simp [show ¬ b < s by omega]
        clear HST HRB HRR
        go_wp2_with fail
        go_ret
        exact ⟨rfl, HM.out.alloc _⟩
      by_cases h2 : 7 < s
      · obtain rfl : rb = false := by rw [← HRB.out, HRR.out, HST.out]; simp [show ¬ s ≤ 7 by omega]
        have h1' : b < s := by omega
        clear HST HRB HRR
        go_wp2_with fail
        go_ret
        exact ⟨rfl, HM.out.alloc _⟩
      have h1' : b < s := by omega
      have h2' : s ≤ 7 := by omega
      cases lb with
      | false =>
        obtain rfl : rb = false := by rw [← HRB.out, HRR.out, HST.out]; simp
        clear HST HRB HRR
        go_wp2_with (go_at_call 47; refine (HLM.out _ ((Mods.refl Nil wr).alloc _)).mono ?_; rintro e w1 ⟨rfl, m1⟩; have M1 := Lib.hid m1; clear m1)
        go_ret
        exact ⟨rfl, (HM.out.alloc _).trans M1.out⟩
      | true =>
        go_wp2_with (go_at_call 47; refine (HLM.out _ ((Mods.refl Nil wr).alloc _)).mono ?_; rintro e w1 ⟨rfl, m1⟩; have M1 := Lib.hid m1; have k0 := ((Blk.new wr 52 #[.int .i64 s, .slice A2 m c2]).mods m1 (fun h => h)).two.1; clear m1)
        exact ⟨⟨j + 1, s, by omega, by go_num, rfl, by rw [HRR.out, HST.out]; simp [h1', h2'], (HM.out.alloc _).trans M1.out⟩, by simp [intOf]; omega⟩
    · obtain rfl : n = j := by omega
      obtain rfl : rb = true := by rw [← HRB.out, HRR.out, List.drop_of_length_le (by simp [pws, HN.out])]; rfl
      clear HRR HRB
      go_wp2_with fail
      go_ret
      exact ⟨rfl, HM.out⟩
theorem sealB_drop {l : List PW} {j : Nat} {q : PW} (h : l[j]? = some q) (s : Int) : sealB s (l.drop j) = (decide (q.shard = s) && sealB s (l.drop (j + 1))) := by
  obtain ⟨hj, e⟩ := List.getElem?_eq_some_iff.1 h
  rw [List.drop_eq_getElem_cons hj, e]; rfl
set_option maxHeartbeats 3200000 in
theorem sealed_any (w : World) (c : PC) {A : Option Addr} {n k : Nat} {L : List RowP} (h : Rws w A n k L) :
    Calls Try.prog 35 #[.agg (CV c A n k)] w fun e w' => e = .returned (.bool (sealB c.shard (pws L))) ∧ Mods Nil w w' := by
  have HL := Lib.hid h
  have HN := Lib.hid h.len
  have hmax := h.most
  have hle := h.le
  have hn47 : n ≤ 9223372036854775807 := by unfold maxLen at hmax; omega
  clear hle hmax h
  obtain ⟨rb, hrb⟩ : ∃ rb, sealB c.shard (pws L) = rb := ⟨_, rfl⟩
  rw [hrb]
  have HRB := Lib.hid hrb
  clear hrb
  have AB := Lib.hid (Blk.new w 30 (CV c A n k))
  have MM := Lib.hid ((Mods.refl Nil w).alloc (.cells (CV c A n k) 30))
  obtain ⟨d0, d1, d2, d3, d4, d5, d6⟩ := cv_seven AB.out
  go_enter Try.func35, Try.ntmps35
  go_wp2_with fail
  clear d0 d1 d2 d3 d4 d5 d6
  go_loopw [8] (fun x wr => ∃ (j : Nat), j ≤ n ∧ x = .int .i64 (j : Int) ∧ sealB c.shard (pws L) = sealB c.shard ((pws L).drop j) ∧ Mods Nil (w.alloc (.cells (CV c A n k) 30)) wr) (fun x _ => n - (intOf x).toNat)
  case atStart => exact ⟨0, Nat.zero_le _, rfl, by simp, Mods.refl _ _⟩
  case round =>
    obtain ⟨j, hj, rfl, hr, hm⟩ := hrel
    have HM := Lib.hid hm
    have HRR := Lib.hid hr
    by_cases hlt : j < n
    · have hjI : (j : Int) < (n : Int) := by omega
      obtain ⟨g, off, q, rfl, hg, hq, hc0, hc1, hs, hx, -⟩ := Rws.at_ (HL.out.mods (MM.out.trans HM.out)) hlt
      have hqp : (pws L)[j]? = some q.pw := by simp [pws, hq]
      have hst := sealB_drop hqp c.shard
      rw [show q.pw.shard = q.shard from rfl] at hst
      have HST := Lib.hid hst
      generalize q.lens.length = m at hc1
      generalize q.A = A2 at hc1
      generalize q.cap = c2 at hc1
      generalize q.shard = s at hc0 HST
      rw [← Nat.add_assoc] at hc1
      have d3 := (cv_seven (AB.out.mods (hm.alloc (.cells #[.int .i64 s, .slice A2 m c2] 52)) (fun h => h))).2.2.2.1
      clear hs hx hq hqp hst hm hr
      by_cases h1 : s = c.shard
      · have e1 : (s != c.shard) = false := by simp [h1]
        have HS1 := Lib.hid h1
        clear h1
        go_wp2_with fail
        exact ⟨⟨j + 1, by omega, by go_num, by rw [HRR.out, HST.out]; simp [HS1.out], HM.out.alloc _⟩, by simp [intOf]; omega⟩
      · have e1 : (s != c.shard) = true := by simp [h1]
        obtain rfl : rb = false := by rw [← HRB.out, HRR.out, HST.out]; simp [h1]
        clear HST HRB HRR h1
        go_wp2_with fail
        go_ret
        exact ⟨rfl, MM.out.trans (HM.out.alloc _)⟩
    · obtain rfl : n = j := by omega
      obtain rfl : rb = true := by rw [← HRB.out, HRR.out, List.drop_of_length_le (by simp [pws, HN.out])]; rfl
      clear HRR HRB hr hm
      go_wp2_with fail
      go_ret
      exact ⟨rfl, MM.out.trans HM.out⟩
end Go.Proofs.Ytkodmgnagfolpaa
end

section
/- Package conf: Check. -/
namespace Go.Proofs.Ytkodmgnagfolpaa
set_option maxRecDepth 100000
open Go.RowKit
set_option linter.unusedVariables false
set_option linter.unusedSimpArgs false

set_option maxHeartbeats 3200000 in
theorem ccheck_any (w : World) (c : PC) {A : Option Addr} {n k : Nat} {L : List RowP} (hok : c.ok) (hr : c.rows = pws L) (h : Rws w A n k L) :
    Calls Try.prog 21 #[.agg (CV c A n k)] w fun e w' => e = .returned (.int .i64 (chkC c)) ∧ Mods Nil w w' := by
  have hlen : c.rows.length = n := by rw [hr]; simp [pws, h.len]
  have hn47 : n ≤ 9223372036854775807 := by have := hok.len; omega
  have HC := Lib.hid (chk_fields hok)
  rw [hlen] at HC
  rw [hr] at HC
  have AB := Lib.hid (Blk.new w 30 (CV c A n k))
  have MM := Lib.hid ((Mods.refl Nil w).alloc (.cells (CV c A n k) 30))
  have HF := Lib.hid (fun W => fields_any W c A (k := k) hn47)
  have HR := Lib.hid (fun W (hW : Mods Nil w W) => rowsMay_any W (h.mods hW))
  have HS := Lib.hid (fun W (hW : Mods Nil w W) => sealed_any W c (h.mods hW))
  generalize chkC c = ck at HC ⊢
  generalize fldsB c n = fb at HC HF
  generalize rowsB (pws L) (-1) = rb at HC HR
  generalize sealB c.shard (pws L) = sb at HC HS
  obtain ⟨d0, d1, d2, d3, d4, d5, d6⟩ := cv_seven AB.out
  clear hok hr h hlen
  by_cases h0 : c.op < 0
  · obtain rfl : ck = 1 := by rw [HC.out, if_neg (by omega)]
    clear HC HF HR HS
    go_enter Try.func21, Try.ntmps21
    go_wp2_with fail
    go_ret
    exact ⟨rfl, MM.out⟩
  have h0' : 0 ≤ c.op := by omega
  by_cases h4 : 4 < c.op
  · obtain rfl : ck = 1 := by rw [HC.out, if_neg (by omega)]
    clear HC HF HR HS
    go_enter Try.func21, Try.ntmps21
    go_wp2_with fail
    go_ret
    exact ⟨rfl, MM.out⟩
  have h4' : c.op ≤ 4 := by omega
  cases fb with
  | false =>
    obtain rfl : ck = 1 := by rw [HC.out, if_neg (fun h => by simp at h)]
    clear HC HR HS
    go_enter Try.func21, Try.ntmps21
    go_wp2_with (go_at_call 33; refine (HF.out _).mono ?_; rintro e w1 ⟨rfl, m1⟩; have M1 := Lib.hid m1; clear m1)
    go_ret
    exact ⟨rfl, MM.out.trans M1.out⟩
  | true =>
    cases rb with
    | false =>
      obtain rfl : ck = 1 := by rw [HC.out, if_neg (fun h => by simp at h)]
      clear HC HS
      go_enter Try.func21, Try.ntmps21
      go_wp2_with (first
        | (go_at_call 33; refine (HF.out _).mono ?_; rintro e w1 ⟨rfl, m1⟩; have M1 := Lib.hid m1; have d6 := (cv_seven (AB.out.mods m1 (fun h => h))).2.2.2.2.2.2; clear m1)
        | (go_at_call 34; refine (HR.out _ (MM.out.trans M1.out)).mono ?_; rintro e w2 ⟨rfl, m2⟩; have M2 := Lib.hid m2; clear m2))
      go_ret
      exact ⟨rfl, MM.out.trans (M1.out.trans M2.out)⟩
    | true =>
      by_cases h2 : c.op = 2
      · have e2 : (c.op == 2) = true := by simp [h2]
        have HSB : Hid (ck = if sb = true then 0 else 1) := Lib.hid (by rw [HC.out]; simp [h2])
        clear HC h2 h0 h4
        cases sb with
        | false =>
          obtain rfl : ck = 1 := by rw [HSB.out]; rfl
          clear HSB
          go_enter Try.func21, Try.ntmps21
          go_wp2_with (first
            | (go_at_call 33; refine (HF.out _).mono ?_; rintro e w1 ⟨rfl, m1⟩; have M1 := Lib.hid m1; have d6 := (cv_seven (AB.out.mods m1 (fun h => h))).2.2.2.2.2.2; clear m1)
            | (go_at_call 34; refine (HR.out _ (MM.out.trans M1.out)).mono ?_; rintro e w2 ⟨rfl, m2⟩; have M2 := Lib.hid (M1.out.trans m2); obtain ⟨f0, f1, f2, f3, f4, f5, f6⟩ := cv_seven (AB.out.mods M2.out (fun h => h)); clear m2)
            | (go_at_call 35; refine (HS.out _ (MM.out.trans M2.out)).mono ?_; rintro e w3 ⟨rfl, m3⟩; have M3 := Lib.hid m3; clear m3))
          go_ret
          exact ⟨rfl, MM.out.trans (M2.out.trans M3.out)⟩
        | true =>
          obtain rfl : ck = 0 := by rw [HSB.out]; rfl
          clear HSB
          go_enter Try.func21, Try.ntmps21
          go_wp2_with (first
            | (go_at_call 33; refine (HF.out _).mono ?_; rintro e w1 ⟨rfl, m1⟩; have M1 := Lib.hid m1; have d6 := (cv_seven (AB.out.mods m1 (fun h => h))).2.2.2.2.2.2; clear m1)
            | (go_at_call 34; refine (HR.out _ (MM.out.trans M1.out)).mono ?_; rintro e w2 ⟨rfl, m2⟩; have M2 := Lib.hid (M1.out.trans m2); obtain ⟨f0, f1, f2, f3, f4, f5, f6⟩ := cv_seven (AB.out.mods M2.out (fun h => h)); clear m2)
            | (go_at_call 35; refine (HS.out _ (MM.out.trans M2.out)).mono ?_; rintro e w3 ⟨rfl, m3⟩; have M3 := Lib.hid m3; clear m3))
          go_ret
          exact ⟨rfl, MM.out.trans (M2.out.trans M3.out)⟩
      · have e2 : (c.op == 2) = false := by rw [beq_eq_false_iff_ne]; exact h2
        obtain rfl : ck = 0 := by rw [HC.out, if_pos ⟨⟨h0', h4'⟩, rfl, rfl, fun h => absurd h h2⟩]
        clear HC h2 h0 h4 HS
        go_enter Try.func21, Try.ntmps21
        go_wp2_with (first
          | (go_at_call 33; refine (HF.out _).mono ?_; rintro e w1 ⟨rfl, m1⟩; have M1 := Lib.hid m1; have d6 := (cv_seven (AB.out.mods m1 (fun h => h))).2.2.2.2.2.2; clear m1)
          | (go_at_call 34; refine (HR.out _ (MM.out.trans M1.out)).mono ?_; rintro e w2 ⟨rfl, m2⟩; have M2 := Lib.hid (M1.out.trans m2); obtain ⟨f0, f1, f2, f3, f4, f5, f6⟩ := cv_seven (AB.out.mods M2.out (fun h => h)); clear m2))
        go_ret
        exact ⟨rfl, MM.out.trans M2.out⟩
end Go.Proofs.Ytkodmgnagfolpaa
end
