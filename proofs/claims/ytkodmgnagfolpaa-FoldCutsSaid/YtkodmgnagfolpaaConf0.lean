/- Commands in plain terms: which may be, a command's bytes, the command of bytes. No program. -/
import Derived.Test.YtkodmgnagfolpaaPlainM
namespace Go.Proofs.Ytkodmgnagfolpaa
set_option maxRecDepth 100000
set_option linter.unusedVariables false
set_option linter.unusedSimpArgs false

structure PW where
  shard : Int := 0
  lens : List Nat := []
structure PC where
  op : Int := 0
  client : Nat := 0
  seq : Nat := 0
  shard : Int := 0
  segs : Int := 0
  pos : Nat := 0
  rows : List PW := []
/-- What Go's types say. -/
structure PW.ok (r : PW) : Prop where
  shard : -9223372036854775808 ≤ r.shard ∧ r.shard ≤ 9223372036854775807
  lens : ∀ x ∈ r.lens, x < 18446744073709551616
  len : r.lens.length ≤ 140737488355328
structure PC.ok (c : PC) : Prop where
  op : -9223372036854775808 ≤ c.op ∧ c.op ≤ 9223372036854775807
  client : c.client < 18446744073709551616
  seq : c.seq < 18446744073709551616
  shard : -9223372036854775808 ≤ c.shard ∧ c.shard ≤ 9223372036854775807
  segs : -9223372036854775808 ≤ c.segs ∧ c.segs ≤ 9223372036854775807
  pos : c.pos < 18446744073709551616
  rows : ∀ r ∈ c.rows, r.ok
  len : c.rows.length ≤ 140737488355328

/-! Which may be. -/
def rowB (r : PW) (b : Int) : Bool := decide (b < r.shard ∧ r.shard ≤ 7 ∧ r.lens.length ≤ 4 ∧ (r.lens.length = 0 ∨ r.lens.getLastD 0 ≠ 0))
def rowsB : List PW → Int → Bool
  | [], _ => true
  | r :: l, b => rowB r b && rowsB l r.shard
def whoB (c : PC) : Bool := decide (c.client ≠ 0 ∨ c.seq ≠ 0)
def opB (c : PC) : Bool :=
  if c.op = 0 then decide (c.client = 0 ∧ c.seq = 0 ∧ c.shard = 0 ∧ c.segs = 0 ∧ c.pos = 0 ∧ c.rows.length = 0)
  else if c.op = 1 then decide (0 ≤ c.shard ∧ c.shard ≤ 7 ∧ 1 ≤ c.segs ∧ c.segs ≤ 4 ∧ c.pos = 0 ∧ c.rows.length = 0)
  else if c.op = 2 then decide (0 ≤ c.shard ∧ c.shard ≤ 7 ∧ c.segs = 0 ∧ c.pos = 0 ∧ (c.rows.length = 0 ∨ (c.rows.length = 1 ∧ (c.rows.headD {}).shard = c.shard)))
  else if c.op = 3 then decide (c.shard = 0 ∧ c.segs = 0 ∧ c.rows.length = 0)
  else if c.op = 4 then decide (c.client = 0 ∧ c.seq = 0 ∧ c.shard = 0 ∧ c.segs = 0 ∧ c.pos = 0)
  else false
def chkC (c : PC) : Int := if rowsB c.rows (-1) = true ∧ opB c = true then 0 else 1
theorem chkC_kinds (c : PC) : chkC c = 0 ∨ chkC c = 1 := by unfold chkC; split <;> simp
theorem chkC_zero {c : PC} : chkC c = 0 ↔ rowsB c.rows (-1) = true ∧ opB c = true := by unfold chkC; split <;> simp_all
theorem rowsB_each : ∀ (l : List PW) (b : Int), rowsB l b = true → ∀ r ∈ l, b < r.shard ∧ r.shard ≤ 7 ∧ r.lens.length ≤ 4
  | [], _, _, r, h => by simp at h
  | r :: l, b, h, q, hq => by
    simp only [rowsB, Bool.and_eq_true, rowB, decide_eq_true_eq] at h
    rcases List.mem_cons.1 hq with e | hq
    · subst e; exact ⟨h.1.1, h.1.2.1, h.1.2.2.1⟩
    · have := rowsB_each l r.shard h.2 q hq
      exact ⟨by omega, this.2⟩
theorem rowsB_len : ∀ (l : List PW) (b : Int), b ≤ 7 → rowsB l b = true → (l.length : Int) + b ≤ 7
  | [], b, hb, _ => by simpa using hb
  | r :: l, b, hb, h => by
    simp only [rowsB, Bool.and_eq_true, rowB, decide_eq_true_eq] at h
    have := rowsB_len l r.shard h.1.2.1 h.2
    simp only [List.length_cons]
    omega
theorem rowsB_8 {l : List PW} (h : rowsB l (-1) = true) : l.length ≤ 8 := by have := rowsB_len l (-1) (by omega) h; omega

/-! A command's bytes. -/
def rowN (r : PW) : List Nat := r.shard.toNat :: r.lens.length :: r.lens
def rowsN : List PW → List Nat
  | [] => []
  | r :: l => rowN r ++ rowsN l
theorem rowsN_append : ∀ l m, rowsN (l ++ m) = rowsN l ++ rowsN m
  | [], m => rfl
  | r :: l, m => by simp [rowsN, rowsN_append l m]
def bodyN (c : PC) : List Nat :=
  if c.op = 1 then [c.client, c.seq, c.shard.toNat, c.segs.toNat]
  else if c.op = 2 then c.client :: c.seq :: c.shard.toNat :: c.rows.length :: rowsN c.rows
  else if c.op = 3 then [c.client, c.seq, c.pos]
  else if c.op = 4 then c.rows.length :: rowsN c.rows
  else []
def kbC (k : Int) : UInt8 := UInt8.ofNat k.toNat
def putC (c : PC) : List UInt8 := kbC c.op :: putAll (bodyN c)

/-! Numbers that are read one by one, each between two bounds. -/
inductive NT where
  | done (c : PC) : NT
  | need (lo hi : Nat) (f : Nat → NT) : NT
def NT.run : NT → List UInt8 → Int × List UInt8 × PC
  | .done c, xs => (0, xs, c)
  | .need lo hi f, xs => if (readUint 0 xs).1 ≠ 0 then ((readUint 0 xs).1, [], {}) else if (readUint 0 xs).2.2 < lo ∨ hi ≤ (readUint 0 xs).2.2 then (11, [], {}) else (f (readUint 0 xs).2.2).run (readUint 0 xs).2.1
def NT.walk : NT → List Nat → Option PC
  | .done c, l => if l = [] then some c else none
  | .need lo hi f, l => match l with
    | [] => none
    | x :: l => if x < lo ∨ hi ≤ x then none else (f x).walk l
theorem run_walk : ∀ (t : NT) (xs r : List UInt8) (c : PC), t.run xs = (0, r, c) → ∃ L, xs = putAll L ++ r ∧ t.walk L = some c ∧ ∀ x ∈ L, x < 18446744073709551616
  | .done d, xs, r, c, h => by
    simp only [NT.run, Prod.mk.injEq] at h
    obtain ⟨-, rfl, rfl⟩ := h
    exact ⟨[], by simp [putAll], by simp [NT.walk], by simp⟩
  | .need lo hi f, xs, r, c, h => by
    simp only [NT.run] at h
    split at h
    · rename_i h1
      simp only [Prod.mk.injEq] at h
      exact absurd h.1 h1
    · rename_i h1
      split at h
      · simp at h
      · rename_i h2
        obtain ⟨L, e, hw, hb⟩ := run_walk (f _) _ r c h
        have h1' : (readUint 0 xs).1 = 0 := Classical.not_not.1 h1
        have hp := put_readUint (xs := xs) (ys := (readUint 0 xs).2.1) (x := (readUint 0 xs).2.2) (Prod.ext h1' rfl)
        refine ⟨(readUint 0 xs).2.2 :: L, ?_, ?_, ?_⟩
        · simp only [putAll, List.append_assoc]; rw [← e]; exact hp
        · simp only [NT.walk]; rw [if_neg h2]; exact hw
        · intro x hx
          rcases List.mem_cons.1 hx with e | hx
          · subst e; exact valOf_lt64 _ _
          · exact hb x hx
theorem walk_run : ∀ (t : NT) (L : List Nat) (r : List UInt8) (c : PC), t.walk L = some c → (∀ x ∈ L, x < 18446744073709551616) → t.run (putAll L ++ r) = (0, r, c)
  | .done d, L, r, c, h, hb => by
    simp only [NT.walk] at h
    split at h
    · rename_i e; subst e; simp at h; subst h; simp [NT.run, putAll]
    · simp at h
  | .need lo hi f, [], r, c, h, hb => by simp [NT.walk] at h
  | .need lo hi f, x :: L, r, c, h, hb => by
    simp only [NT.walk] at h
    split at h
    · simp at h
    · rename_i h2
      have ih := walk_run (f x) L r c h (fun y hy => hb y (List.mem_cons_of_mem _ hy))
      simp only [NT.run, putAll, List.append_assoc]
      rw [readUint_put (hb x List.mem_cons_self)]
      simp only [ne_eq, not_true_eq_false, if_false]
      rw [if_neg h2]
      exact ih
theorem walk_cut : ∀ (t : NT) (L : List Nat) (k : Nat) (c : PC), t.walk L = some c → (∀ x ∈ L, x < 18446744073709551616) → k < (putAll L).length → (t.run ((putAll L).take k)).1 = 10
  | .done d, L, k, c, h, hb, hk => by
    simp only [NT.walk] at h
    split at h
    · rename_i e; subst e; simp [putAll] at hk
    · simp at h
  | .need lo hi f, [], k, c, h, hb, hk => by simp [NT.walk] at h
  | .need lo hi f, x :: L, k, c, h, hb, hk => by
    simp only [NT.walk] at h
    split at h
    · simp at h
    · rename_i h2
      have hx := hb x List.mem_cons_self
      have hk' : k < (putU x).length + (putAll L).length := by simpa [putAll] using hk
      by_cases hs : k < (putU x).length
      · have e : (putAll (x :: L)).take k = (putU x).take k := by
          simp only [putAll]; rw [List.take_append_of_le_length (by omega)]
        have hr : readUint 0 ((putAll (x :: L)).take k) = (10, [], 0) := by rw [e]; exact readUint_short hx hs
        simp [NT.run, hr]
      · have e : (putAll (x :: L)).take k = putU x ++ (putAll L).take (k - (putU x).length) := by
          simp only [putAll]; rw [List.take_append, List.take_of_length_le (by omega)]
        have hr : readUint 0 ((putAll (x :: L)).take k) = (0, (putAll L).take (k - (putU x).length), x) := by rw [e]; exact readUint_put hx _
        simp only [NT.run, hr, ne_eq, not_true_eq_false, if_false]
        rw [if_neg h2]
        exact walk_cut (f x) L _ c h (fun y hy => hb y (List.mem_cons_of_mem _ hy)) (by omega)

/-! The command of bytes. -/
def lensT : Nat → List Nat → (List Nat → NT) → NT
  | 0, a, f => f a
  | n + 1, a, f => .need 0 18446744073709551616 fun x => lensT n (a ++ [x]) f
def rowsT : Nat → List PW → (List PW → NT) → NT
  | 0, a, f => f a
  | n + 1, a, f => .need 0 8 fun s => .need 0 5 fun k => lensT k [] fun l => rowsT n (a ++ [⟨s, l⟩]) f
def allT (f : List PW → NT) : NT := .need 0 9 fun n => rowsT n [] f
def tree (op : Nat) : NT :=
  if op = 1 then .need 0 18446744073709551616 fun a => .need 0 18446744073709551616 fun b => .need 0 8 fun s => .need 1 5 fun k => .done { op := 1, client := a, seq := b, shard := s, segs := k }
  else if op = 2 then .need 0 18446744073709551616 fun a => .need 0 18446744073709551616 fun b => .need 0 8 fun s => allT fun l => .done { op := 2, client := a, seq := b, shard := s, rows := l }
  else if op = 3 then .need 0 18446744073709551616 fun a => .need 0 18446744073709551616 fun b => .need 0 18446744073709551616 fun p => .done { op := 3, client := a, seq := b, pos := p }
  else if op = 4 then allT fun l => .done { op := 4, rows := l }
  else .done { op := op }
def gT (xs : List UInt8) : Int × List UInt8 × PC := (tree (xs.headD 0).toNat).run (xs.drop 1)
def gE (xs : List UInt8) : Int :=
  if xs = [] then 10 else if 4 < (xs.headD 0).toNat then 11 else if (gT xs).1 ≠ 0 then (gT xs).1 else if (gT xs).2.1 ≠ [] then 12 else if chkC (gT xs).2.2 ≠ 0 then 11 else 0
def gC (xs : List UInt8) : PC := if gE xs = 0 then (gT xs).2.2 else {}
theorem gC_bad {xs : List UInt8} (h : gE xs ≠ 0) : gC xs = {} := by unfold gC; rw [if_neg h]

theorem lensT_walk : ∀ (n : Nat) (a : List Nat) (f : List Nat → NT) (L : List Nat) (c : PC), (lensT n a f).walk L = some c ↔ ∃ l L', l.length = n ∧ L = l ++ L' ∧ (∀ x ∈ l, x < 18446744073709551616) ∧ (f (a ++ l)).walk L' = some c
  | 0, a, f, L, c => by
    constructor
    · intro h; exact ⟨[], L, rfl, rfl, by simp, by simpa [lensT] using h⟩
    · rintro ⟨l, L', hl, rfl, -, h⟩
      obtain rfl : l = [] := List.eq_nil_of_length_eq_zero hl
      simpa [lensT] using h
  | n + 1, a, f, L, c => by
    constructor
    · intro h
      cases L with
      | nil => simp [lensT, NT.walk] at h
      | cons x L =>
        simp only [lensT, NT.walk] at h
        split at h
        · simp at h
        · rename_i h2
          obtain ⟨l, L', hl, e, hb, hw⟩ := (lensT_walk n _ f L c).1 h
          refine ⟨x :: l, L', by simp [hl], by simp [e], ?_, by simpa using hw⟩
          intro y hy
          rcases List.mem_cons.1 hy with e | hy
          · subst e; omega
          · exact hb y hy
    · rintro ⟨l, L', hl, rfl, hb, h⟩
      cases l with
      | nil => simp at hl
      | cons x l =>
        have hx := hb x List.mem_cons_self
        simp only [lensT, List.cons_append, NT.walk]
        rw [if_neg (by omega)]
        exact (lensT_walk n _ f _ c).2 ⟨l, L', by simpa using hl, rfl, fun y hy => hb y (List.mem_cons_of_mem _ hy), by simpa using h⟩
def rowS (r : PW) : Prop := 0 ≤ r.shard ∧ r.shard ≤ 7 ∧ r.lens.length ≤ 4 ∧ ∀ x ∈ r.lens, x < 18446744073709551616
theorem rowsT_walk : ∀ (n : Nat) (a : List PW) (f : List PW → NT) (L : List Nat) (c : PC), (rowsT n a f).walk L = some c ↔ ∃ l L', l.length = n ∧ L = rowsN l ++ L' ∧ (∀ r ∈ l, rowS r) ∧ (f (a ++ l)).walk L' = some c
  | 0, a, f, L, c => by
    constructor
    · intro h; exact ⟨[], L, rfl, rfl, by simp, by simpa [rowsT] using h⟩
    · rintro ⟨l, L', hl, rfl, -, h⟩
      obtain rfl : l = [] := List.eq_nil_of_length_eq_zero hl
      simpa [rowsT, rowsN] using h
  | n + 1, a, f, L, c => by
    constructor
    · intro h
      match L, h with
      | [], h => simp [rowsT, NT.walk] at h
      | [s], h => simp [rowsT, NT.walk] at h
      | s :: k :: L, h =>
        simp only [rowsT, NT.walk] at h
        split at h
        · simp at h
        · rename_i h1
          split at h
          · simp at h
          · rename_i h2
            obtain ⟨ls, L1, hl, e, hb, hw⟩ := (lensT_walk k _ _ L c).1 h
            obtain ⟨l, L2, hl2, e2, hb2, hw2⟩ := (rowsT_walk n _ f L1 c).1 hw
            refine ⟨⟨s, ls⟩ :: l, L2, by simp [hl2], ?_, ?_, by simpa using hw2⟩
            · simp [rowsN, rowN, e, e2, hl]
            · intro r hr
              rcases List.mem_cons.1 hr with e | hr
              · subst e; exact ⟨by simp, by simp; omega, by simp; omega, hb⟩
              · exact hb2 r hr
    · rintro ⟨l, L', hl, rfl, hb, h⟩
      cases l with
      | nil => simp at hl
      | cons r l =>
        obtain ⟨h0, h7, h4, h64⟩ := hb r List.mem_cons_self
        obtain ⟨s, hs⟩ : ∃ s : Nat, r.shard = s := ⟨r.shard.toNat, by omega⟩
        simp only [rowsT, rowsN, rowN, List.cons_append, NT.walk]
        rw [if_neg (by omega), if_neg (by omega), List.append_assoc]
        refine (lensT_walk _ _ _ _ c).2 ⟨r.lens, rowsN l ++ L', rfl, rfl, h64, ?_⟩
        refine (rowsT_walk n _ f _ c).2 ⟨l, L', by simpa using hl, rfl, fun q hq => hb q (List.mem_cons_of_mem _ hq), ?_⟩
        have e : (⟨(r.shard.toNat : Int), [] ++ r.lens⟩ : PW) = r := by cases r; simp at *; omega
        rw [e]
        simpa using h
theorem allT_walk (f : List PW → NT) (L : List Nat) (c : PC) : (allT f).walk L = some c ↔ ∃ l L', l.length ≤ 8 ∧ L = l.length :: (rowsN l ++ L') ∧ (∀ r ∈ l, rowS r) ∧ (f l).walk L' = some c := by
  constructor
  · intro h
    cases L with
    | nil => simp [allT, NT.walk] at h
    | cons n L =>
      simp only [allT, NT.walk] at h
      split at h
      · simp at h
      · obtain ⟨l, L', hl, e, hb, hw⟩ := (rowsT_walk n _ f L c).1 h
        exact ⟨l, L', by omega, by rw [hl, e], hb, by simpa using hw⟩
  · rintro ⟨l, L', hl, rfl, hb, h⟩
    simp only [allT, NT.walk]
    rw [if_neg (by omega)]
    exact (rowsT_walk _ _ f _ c).2 ⟨l, L', rfl, rfl, hb, by simpa using h⟩
end Go.Proofs.Ytkodmgnagfolpaa
